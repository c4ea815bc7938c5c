/- The walk over the reference's ParseSchema. -/
import Derived.Test.YtfkdenlpailmeaaSchR3
import Derived.Test.YtfkdenlpailmeaaSchC5
namespace Go.SC
open Go.RowKit Go.VB Go.VL
/-- How far ParseSchema has come: the columns cs out of k lines, the key n at line q (0: none yet); what is left is unl ts tail. -/
def PAt (tail : List UInt8) (ts : List (List UInt8)) (cs : List Col) (n : List UInt8) (k q : Nat) (R : PRes) : Prop :=
  (q = 0 ∧ plr tail ts cs k = R) ∨ (q = k ∧ 1 ≤ k ∧ (unl ts tail = [] → R = .ok cs n k) ∧ (unl ts tail ≠ [] → R = .bad (k + 1)))
section
variable {tail t : List UInt8} {ts : List (List UInt8)} {cs : List Col} {n n' : List UInt8} {k q : Nat} {R : PRes} {c : Col}
theorem PAt.bad_tail (h : PAt tail [] cs n k q R) (ht : tail ≠ []) : R = .bad (k + 1) := by
  rcases h with ⟨_, h⟩ | ⟨_, _, _, h⟩
  · rw [← h, plr_open ht]
  · exact h ht
theorem PAt.bad_key (h : PAt tail (t :: ts) cs n k q R) (hq : 0 < q) : R = .bad (k + 1) := by
  rcases h with ⟨h, _⟩ | ⟨_, _, _, h⟩
  · omega
  · exact h (by rw [unl_cons]; simp)
theorem PAt.bad_line (h : PAt tail (t :: ts) cs n k q R) (h1 : ¬ ∃ n, isKey t n) (h2 : ¬ ∃ c, isCol t c) : R = .bad (k + 1) := by
  rcases h with ⟨_, h⟩ | ⟨_, _, _, h⟩
  · rw [← h, plr_bad h1 h2]
  · exact h (by rw [unl_cons]; simp)
theorem PAt.key (h : PAt tail (t :: ts) cs n k 0 R) (hk : isKey t n') : PAt tail ts cs n' (k + 1) (k + 1) R := by
  rcases h with ⟨_, h⟩ | ⟨h1, h2, _⟩
  · refine .inr ⟨rfl, by omega, fun hu => ?_, fun hu => ?_⟩
    · cases ts with
      | nil => rw [unl_nil] at hu; subst hu; rw [← h, plr_key hk rfl]
      | cons _ _ => rw [unl_cons] at hu; simp at hu
    · rw [← h, plr_more hk hu]
  · omega
theorem PAt.col (h : PAt tail (t :: ts) cs n k 0 R) (h1 : ¬ ∃ n, isKey t n) (h2 : isCol t c) : PAt tail ts (cs ++ [c]) n (k + 1) 0 R := by
  rcases h with ⟨_, h⟩ | ⟨h3, h4, _⟩
  · exact .inl ⟨rfl, by rw [← h, plr_col h1 h2]⟩
  · omega
theorem PAt.end0 (h : PAt tail ts cs n k 0 R) (hu : unl ts tail = []) : R = .bad 0 := by
  rcases h with ⟨_, h⟩ | ⟨h1, h2, _⟩
  · cases ts with
    | nil => rw [unl_nil] at hu; rw [← h, plr_end hu]
    | cons _ _ => rw [unl_cons] at hu; simp at hu
  · omega
theorem PAt.end1 (h : PAt tail ts cs n k q R) (hq : 0 < q) (hu : unl ts tail = []) : R = .ok cs n q := by
  rcases h with ⟨h, _⟩ | ⟨h1, _, h2, _⟩
  · omega
  · rw [h1]; exact h2 hu
end
theorem Var2.other {w : World} {b c i : Nat} {x y u : Value} (h : Var2 w b x y) (hc : b ≠ c) : Var2 (w.setCell ⟨c, i, none⟩ u) b x y := by
  have hk : ∀ j : Nat, (⟨c, i, none⟩ : Addr) ≠ ⟨b, j, none⟩ := fun j e => hc (congrArg Addr.block e).symm
  constructor
  · rw [World.cell?_setCell_other _ _ _ _ (hk _)]; exact h.c0
  · rw [World.cell?_setCell_other _ _ _ _ (hk _)]; exact h.c1
  · rw [World.frozen?_setCell]; exact h.f0
  · rw [World.frozen?_setCell]; exact h.f1
theorem Var2.set0 {w : World} {b : Nat} {x y : Value} (h : Var2 w b x y) (x' : Value) : Var2 (w.setCell ⟨b, 0, none⟩ x') b x' y := by
  constructor
  · exact World.cell?_setCell_same _ _ _ h.c0
  · rw [World.cell?_setCell_other _ _ _ _ (by simp)]; exact h.c1
  · rw [World.frozen?_setCell]; exact h.f0
  · rw [World.frozen?_setCell]; exact h.f1
theorem getD_drop (l : List UInt8) (f p : Nat) (h : f ≤ p) : l.getD p 0 = (l.drop f).getD (p - f) 0 := by
  rw [List.getD_eq_getElem?_getD, List.getD_eq_getElem?_getD, List.getElem?_drop, show f + (p - f) = p from by omega]
theorem not_mem_getD {t : List UInt8} {b : UInt8} (h : b ∉ t) {i : Nat} (hi : i < t.length) : t.getD i 0 ≠ b := fun e => h (by
  rw [← e, List.getD_eq_getElem?_getD, List.getElem?_eq_getElem hi]; exact List.getElem_mem hi)
/-- A line within a text. -/
theorem pos_cons {l t r : List UInt8} {f : Nat} (h : l.drop f = t ++ 10 :: r) (hn : (10 : UInt8) ∉ t) :
    f + t.length < l.length ∧ (∀ p, f ≤ p → p < f + t.length → l.getD p 0 ≠ 10) ∧ l.getD (f + t.length) 0 = 10 ∧ (l.drop f).take (f + t.length - f) = t ∧ l.drop (f + t.length + 1) = r ∧ l.length = f + t.length + 1 + r.length := by
  have hl := congrArg List.length h
  simp at hl
  refine ⟨by omega, fun p h1 h2 => ?_, ?_, ?_, ?_, by omega⟩
  · rw [getD_drop l f p h1, h, List.getD_eq_getElem?_getD, List.getElem?_append_left (by omega), ← List.getD_eq_getElem?_getD]
    exact not_mem_getD hn (by omega)
  · rw [getD_drop l f _ (by omega), h, show f + t.length - f = t.length from by omega]; simp
  · rw [h, show f + t.length - f = t.length from by omega, List.take_left]
  · have : l.drop (f + t.length + 1) = (l.drop f).drop (t.length + 1) := by rw [List.drop_drop]; congr 1
    rw [this, h]; simp
theorem pos_nil {l t : List UInt8} {f : Nat} (h : l.drop f = t) (hn : (10 : UInt8) ∉ t) (hf : f ≤ l.length) : l.length = f + t.length ∧ ∀ p, f ≤ p → p < l.length → l.getD p 0 ≠ 10 := by
  have hl := congrArg List.length h
  simp at hl
  refine ⟨by omega, fun p h1 h2 => ?_⟩
  rw [getD_drop l f p h1, h]
  exact not_mem_getD hn (by omega)
theorem ne10 {b : UInt8} (h : b ≠ 10) : ((b.toNat : Int) != 10) = true := ine_t (fun e => h (UInt8.toNat_inj.1 (by rw [show (10 : UInt8).toNat = 10 from rfl]; omega)))
end Go.SC
namespace Go.Proofs.Ytfkdenlpailmeaa
open Go.RowKit Go.VB Go.VL Go.SC
set_option linter.constructorNameAsVariable false
set_option maxRecDepth 100000 in
set_option maxHeartbeats 8000000 in
theorem rparse_any (l : List UInt8) (W : World) : Calls Try.prog 18 #[.string (str l)] W (PRS 44 (prsS l) W) := by
  have hV := Var2.new W (.slice none 0 0) (.int .i64 0) 34
  have hB : Below W.heap.size W (W.alloc (.cells #[.slice none 0 0, .int .i64 0] 34)) := (Below.refl _ _).alloc (Nat.le_refl _) _
  have hS := size_of l
  by_cases hz : 65536 < l.length
  · have hE : Hid (prsS l = ⟨[], 0, 0, 7⟩) := Lib.hid (by unfold prsS; rw [if_pos hz])
    have hz' : 65536 < (str l).size := by rw [hS]; exact hz
    have hd : decide (65536 < ((str l).size : Int)) = true := decide_eq_true (by omega)
    clear hz hS hz'
    clear hV
    generalize str l = S at *
    go_enter Try.func18, Try.ntmps18
    go_wp2_with fail
    refine bodyPost_ret (v := .tuple #[.agg #[.slice none 0 0, .int .i64 0], .int .i64 0, .int .i64 7]) (by simp [results, Try.results18, go_sem]) rfl ?_
    exact PRS.none hE.out rfl hB
  have hle : l.length ≤ 65536 := by omega
  obtain ⟨hl, hnl⟩ := lns_ok l
  obtain ⟨R, hR⟩ : ∃ R, plr (lns l).2 (lns l).1 [] 0 = R := ⟨_, rfl⟩
  have HPOK := fun cs n k (h : R = .ok cs n k) => Lib.hid (prs_ok hle (hR.trans h))
  have HPBAD := fun k (h : R = .bad k) => Lib.hid (prs_bad hle (hR.trans h))
  generalize (lns l).1 = ts0 at *
  generalize (lns l).2 = tail at *
  have HL := Lib.hid hl
  have HR := Lib.hid hR
  have HNL0 := Lib.hid hnl
  clear hR hnl hz hl
  generalize prsS l = PR at *
  have hzz : (str l).size ≤ 65536 := by rw [hS]; exact hle
  have HSZ := Lib.hid hS
  have HPC := fun fr i => Lib.hid (cut_piece l fr i)
  have hb : ∀ (n : Nat) (h : n < (str l).size), ((str l)[n]'h).toNat = (l.getD n 0).toNat := fun n h => by rw [get_bN, bN_str]
  have HB8 := Lib.hid hb
  clear hb hle hS
  generalize str l = S at *
  have hV1 := hV.step ((Below.refl _ _).alloc (Nat.le_refl _) (.cells #[.slice none 0 0, .int .i64 0] 34))
  have hV2 := Var2.new (W.alloc (.cells #[.slice none 0 0, .int .i64 0] 34)) (.slice none 0 0) (.int .i64 0) 34
  rw [show (W.alloc (.cells #[.slice none 0 0, .int .i64 0] 34)).heap.size = W.heap.size + 1 from by simp] at hV2
  have hB1 := hB.alloc hB.size (.cells #[.slice none 0 0, .int .i64 0] 34)
  have hsz1 : W.heap.size + 2 ≤ ((W.alloc (.cells #[.slice none 0 0, .int .i64 0] 34)).alloc (.cells #[.slice none 0 0, .int .i64 0] 34)).heap.size := by simp
  clear hV hB
  go_enter Try.func18, Try.ntmps18
  go_wp2_with fail
  generalize (W.alloc (.cells #[.slice none 0 0, .int .i64 0] 34)).alloc (.cells #[.slice none 0 0, .int .i64 0] 34) = w0 at *
  go_loopw [3, 4, 6, 7, 8, 9, 10, 11, 12, 13, 14] (fun r3 r4 key kl ln fr _ _ _ _ _ wr => ∃ (ts : List (List UInt8)) (cs : List Col) (n : List UInt8) (k q f : Nat), r3 = .int .i64 0 ∧ r4 = .int .i64 0 ∧ key = .string (str n) ∧ kl = .int .i64 (q : Nat) ∧ ln = .int .i64 (k : Nat) ∧ fr = .int .i64 (f : Nat) ∧
      f ≤ S.size ∧ cs.length ≤ f ∧ k ≤ f ∧ q ≤ k ∧ Below W.heap.size W wr ∧ W.heap.size + 2 ≤ wr.heap.size ∧ Hid (l.drop f = unl ts tail) ∧ Hid (NL ts tail) ∧ Hid (PAt tail ts cs n k q R) ∧ Hid (Var2 wr W.heap.size (.slice none 0 0) (.int .i64 0)) ∧
      Hid (∃ v, Var2 wr (W.heap.size + 1) v (.int .i64 0) ∧ OwnC 44 wr (W.heap.size + 2) v cs)) (fun _ _ _ _ _ fr _ _ _ _ _ _ => S.size - (intOf fr).toNat)
  case atStart => exact ⟨ts0, [], [], 0, 0, 0, rfl, rfl, rfl, rfl, rfl, rfl, Nat.zero_le _, Nat.zero_le _, Nat.zero_le _, Nat.zero_le _, hB1, hsz1, Lib.hid HL.out.symm, HNL0, Lib.hid (.inl ⟨rfl, HR.out⟩), Lib.hid hV1, Lib.hid ⟨_, hV2, OwnC.nil _ _ _⟩⟩
  case round =>
    clear hV1 hV2 hB1 hsz1 HL HR HNL0
    obtain ⟨ts, cs, n, k, q, f, rfl, rfl, rfl, rfl, rfl, rfl, hf, hcf, hkf, hqk, hB, hsz, HD, HNL, HAT, HV, HO⟩ := hrel
    by_cases hlt : f < S.size
    · cases ts with
      | nil =>
        have htail : tail ≠ [] := fun e => by
          have h1 := congrArg List.length HD.out
          rw [unl_nil, e, List.length_drop] at h1
          have h2 := HSZ.out
          simp at h1; omega
        have hP := pos_nil HD.out HNL.out.2 (by have := HSZ.out; omega)
        rw [← HSZ.out] at hP
        have HP := Lib.hid hP.2
        have hE := HPBAD _ (HAT.out.bad_tail htail)
        have hlen : ((l.drop f).take (S.size - f)).length ≤ 65536 := by rw [List.length_take]; omega
        have hpc := (HPC f S.size).out
        have HW := fun w => Lib.hid (words_any _ w hlen)
        rw [← hpc] at HW
        clear hP HPOK HPBAD HD HNL HAT HO htail hpc hlen HPC HSZ
        go_wp2_with fail
        go_loop [10] (fun to => ∃ p : Nat, to = .int .i64 (p : Nat) ∧ f ≤ p ∧ p ≤ S.size) (fun to => S.size - (intOf to).toNat)
        case atStart => exact ⟨f, rfl, Nat.le_refl _, hf⟩
        case round =>
          obtain ⟨p, rfl, hfp, hpS⟩ := hrel
          by_cases hps : p < S.size
          · have hgp := HB8.out p
            have hne := ne10 (HP.out p hfp hps)
            clear HP HB8 HW
            generalize (l.getD p 0).toNat = V at *
            go_wp2_with fail
            go_round
            case rel => exact ⟨p + 1, by go_num, by omega, hps⟩
            case measure => simp [intOf] <;> omega
          · obtain rfl : p = S.size := by omega
            clear HP HB8 hps hfp hpS
            go_wp2_with fail
            refine (HW _).out.mono ?_
            rintro e w2 ⟨hb, hp⟩
            replace hB := bel_trans hB hb
            have hV := HV.out.step hb
            clear HW hb HV
            rcases hp with ⟨v, _, rfl, _⟩ | ⟨_, rfl⟩
            · have hVs := hV.set (.slice none 0 0) (.int .i64 0)
              have hBs := set2_below hB (Nat.le_refl _) (.slice none 0 0) (.int .i64 0)
              obtain ⟨q0, q1, q2, q3⟩ := hV
              go_wp2_with fail
              generalize (w2.setCell ⟨W.heap.size, 0, none⟩ (.slice none 0 0)).setCell ⟨W.heap.size, 1, none⟩ (.int .i64 0) = w9 at *
              obtain ⟨m0, m1, _, _⟩ := hVs
              refine bodyPost_ret (v := .tuple #[.agg #[.slice none 0 0, .int .i64 0], .int .i64 ((k + 1 : Nat) : Int), .int .i64 2]) (by simp [results, Try.results18, go_sem, m0, m1]) rfl ?_
              exact PRS.none hE.out (by rfl) hBs
            · have hVs := hV.set (.slice none 0 0) (.int .i64 0)
              have hBs := set2_below hB (Nat.le_refl _) (.slice none 0 0) (.int .i64 0)
              obtain ⟨q0, q1, q2, q3⟩ := hV
              go_wp2_with fail
              generalize (w2.setCell ⟨W.heap.size, 0, none⟩ (.slice none 0 0)).setCell ⟨W.heap.size, 1, none⟩ (.int .i64 0) = w9 at *
              obtain ⟨m0, m1, _, _⟩ := hVs
              refine bodyPost_ret (v := .tuple #[.agg #[.slice none 0 0, .int .i64 0], .int .i64 ((k + 1 : Nat) : Int), .int .i64 2]) (by simp [results, Try.results18, go_sem, m0, m1]) rfl ?_
              exact PRS.none hE.out (by rfl) hBs
      | cons t ts =>
        obtain ⟨hP1, hP2, hP3, hP4, hP5, hP6⟩ := pos_cons (by rw [HD.out, unl_cons]) (HNL.out.1 t (by simp))
        have hNL2 : Hid (NL ts tail) := Lib.hid ⟨fun x hx => HNL.out.1 x (List.mem_cons_of_mem _ hx), HNL.out.2⟩
        have htl : t.length ≤ 65536 := by have := HSZ.out; omega
        rw [← HSZ.out] at hP1 hP6
        obtain ⟨e, he⟩ : ∃ e, f + t.length = e := ⟨_, rfl⟩
        have hpc := (HPC f e).out
        rw [he] at hP1 hP2 hP3 hP4 hP5 hP6
        rw [hP4] at hpc
        have HW := fun w => Lib.hid (words_any t w htl)
        rw [← hpc] at HW
        have hfe : f ≤ e := by omega
        have HP2 := Lib.hid hP2
        have HD2 := Lib.hid hP5
        have HU6 := Lib.hid hP6
        have h10 : (((l.getD e 0).toNat : Int) != 10) = false := by rw [hP3]; rfl
        clear hP2 hP3 hP4 hP5 hP6 HD HNL hpc HPC HSZ he
        go_wp2_with fail
        go_loop [10] (fun to => ∃ p : Nat, to = .int .i64 (p : Nat) ∧ f ≤ p ∧ p ≤ e) (fun to => S.size - (intOf to).toNat)
        case atStart => exact ⟨f, rfl, Nat.le_refl _, hfe⟩
        case round =>
          obtain ⟨p, rfl, hfp, hpe⟩ := hrel
          have hgp := HB8.out p
          by_cases hps : p < e
          · have hne := ne10 (HP2.out p hfp hps)
            clear HP2 HB8 HW h10 HPOK HPBAD HAT HO HV hNL2 HD2 HU6
            generalize (l.getD p 0).toNat = V at *
            go_wp2_with fail
            go_round
            case rel => exact ⟨p + 1, by go_num, by omega, hps⟩
            case measure => simp [intOf] <;> omega
          · obtain rfl : p = e := by omega
            clear HP2 HB8 hps hpe
            generalize (l.getD p 0).toNat = V at *
            go_wp2_with fail
            refine (HW _).out.mono ?_
            rintro e w2 ⟨hb, hp⟩
            replace hB := bel_trans hB hb
            have hV := HV.out.step hb
            have hsz2 : W.heap.size + 2 ≤ w2.heap.size := by have := hb.size; omega
            have HO2 : Hid (∃ v, Var2 w2 (W.heap.size + 1) v (.int .i64 0) ∧ OwnC 44 w2 (W.heap.size + 2) v cs) := Lib.hid (by
              obtain ⟨v, h1, h2⟩ := HO.out
              exact ⟨v, h1.step hb, h2.below hb⟩)
            have hv2 : 2 ≤ 2 := Nat.le_refl _
            clear HW HV HO hgp h10 hsz hv2
            rcases hp with ⟨v, hnem, rfl, how⟩ | ⟨hmem, rfl⟩
            · have hrd := how.read
              have h1w : 1 ≤ (spl t).length := by
                cases hs : spl t with
                | nil => exact absurd hs (spl_ne t)
                | cons _ _ => simp
              have hwW : ∀ x ∈ spl t, isW x := fun x hx => ⟨fun e => hnem (by rw [← e]; exact hx), spl_nosp t x hx⟩
              have hdps : ((p : Int) == (S.size : Int)) = false := ieq_f (by omega)
              clear how hb
              by_cases hq : 0 < q
              · have hE := HPBAD _ (HAT.out.bad_key hq)
                have hdq : decide (0 < (q : Int)) = true := decide_eq_true (by omega)
                clear HPOK HPBAD HAT HO2 hNL2 HD2 HU6 hrd hwW h1w hnem
                have hVs := hV.set (.slice none 0 0) (.int .i64 0)
                have hBs := set2_below hB (Nat.le_refl _) (.slice none 0 0) (.int .i64 0)
                obtain ⟨q0, q1, q2, q3⟩ := hV
                go_wp2_with fail
                generalize (w2.setCell ⟨W.heap.size, 0, none⟩ (.slice none 0 0)).setCell ⟨W.heap.size, 1, none⟩ (.int .i64 0) = w9 at *
                obtain ⟨m0, m1, _, _⟩ := hVs
                refine bodyPost_ret (v := .tuple #[.agg #[.slice none 0 0, .int .i64 0], .int .i64 ((k + 1 : Nat) : Int), .int .i64 2]) (by simp [results, Try.results18, go_sem, m0, m1]) rfl ?_
                exact PRS.none hE.out (by rfl) hBs
              · obtain rfl : q = 0 := by omega
                obtain ⟨A, cap, rfl, _⟩ := id hrd
                obtain ⟨ad, rfl, _, hcap, hmx, hadB, hcell⟩ := hrd.cells h1w
                unfold maxLen at hmx
                by_cases hkey : (spl t).length = 2 ∧ (spl t).getD 0 [] = keyL
                · obtain ⟨n', hn'⟩ : ∃ n', spl t = [keyL, n'] := by
                    match hs : spl t, hkey with
                    | [a, b], hk => exact ⟨b, by rw [show a = keyL from hk.2]⟩
                  have hk : isKey t n' := isKey_spl.2 ⟨hwW n' (by rw [hn']; simp), hn'⟩
                  have h30 := hcell 0 (by omega)
                  have h31 := hcell 1 (by omega)
                  rw [at_k _ (by decide)] at h31
                  have h30' := h30
                  rw [at_0] at h30'
                  rw [hn'] at h30 h31 h30'
                  change _ = some (Value.string ⟨#[107, 101, 121]⟩) at h30
                  change _ = some (Value.string ⟨#[107, 101, 121]⟩) at h30'
                  change _ = some (Value.string (str n')) at h31
                  have hc2 : 2 ≤ cap := by omega
                  rw [show (spl t).length = 2 from hkey.1]
                  have HAT2 := Lib.hid (HAT.out.key hk)
                  clear hcell hrd hcap hwW h1w hkey hk hn' hnem HPOK HPBAD HAT
                  go_wp2_with fail
                  go_roundw
                  case rel => exact ⟨ts, cs, n', k + 1, k + 1, p + 1, rfl, rfl, rfl, by go_num, by go_num, by go_num, by omega, by omega, by omega, by omega, hB, hsz2, HD2, hNL2, HAT2, Lib.hid hV, HO2⟩
                  case measure => simp [intOf] <;> omega
                · have hnk : ¬ ∃ n, isKey t n := by
                    rintro ⟨n', hk⟩
                    have := (isKey_spl.1 hk).2
                    exact hkey ⟨by rw [this]; rfl, by rw [this]; rfl⟩
                  have HC := fun w h => Lib.hid (rcol_any (spl t) (.slice (some ad) (spl t).length cap) w h h1w hwW)
                  have HRD := Lib.hid hrd
                  have HNK := Lib.hid hnk
                  have hcelln := hcell
                  have hk0 : ((((spl t).length : Nat) : Int) == 2) = false ∨ (2 ≤ cap ∧ (spl t).length = 2 ∧ w2.cell? ad = some (.string (str ((spl t).getD 0 []))) ∧ w2.cell? (ad.add 0) = some (.string (str ((spl t).getD 0 []))) ∧ ((str ((spl t).getD 0 [])).toList == [107, 101, 121]) = false) := by
                    by_cases h2 : (spl t).length = 2
                    · have h30 := hcell 0 (by omega)
                      have h30' := h30
                      rw [at_0] at h30'
                      exact .inr ⟨by omega, h2, h30', h30, str_ne (m := keyL) (fun e => hkey ⟨h2, e⟩)⟩
                    · exact .inl (ieq_f (by omega))
                  clear hcell hcelln hrd hwW hkey hnk hnem
                  have HWS : Hid (spl t = spl t) := Lib.hid rfl
                  have HX : Hid True := Lib.hid trivial
                  obtain ⟨ws, hws⟩ : ∃ ws, spl t = ws := ⟨_, rfl⟩
                  rw [hws] at HC HRD hk0 h1w hcap ⊢
                  replace HWS := Lib.hid hws
                  clear hws
                  have hCALL : ∀ (a : Act) (K : Exit → Act → World → Prop), True := fun _ _ => trivial
                  clear hCALL
                  rcases hk0 with hk0 | ⟨hk1, hk2, hk3, hk4, hk5⟩
                  · go_wp2_with fail
                    refine (HC _ HRD.out).out.mono ?_
                    rintro e w3 ⟨hb, ⟨cnm, cty, csc, cnu⟩, b, rfl, a1, a2, _⟩
                    replace hB := bel_trans hB hb
                    replace hV := hV.step hb
                    have hsz3 : W.heap.size + 2 ≤ w3.heap.size := by have := hb.size; omega
                    have hlt3 : W.heap.size < w3.heap.size := by omega
                    have hlt4 : W.heap.size + 1 < w3.heap.size := by omega
                    have HO3 : Hid (∃ v, Var2 w3 (W.heap.size + 1) v (.int .i64 0) ∧ OwnC 44 w3 (W.heap.size + 2) v cs) := Lib.hid (by
                      obtain ⟨v, h1, h2⟩ := HO2.out
                      exact ⟨v, h1.step hb, h2.below hb⟩)
                    clear HC HRD HO2 hsz2 hb HX
                    unfold Col.val
                    simp only at a1 a2 ⊢
                    cases b with
                    | false =>
                      have hE := HPBAD _ (HAT.out.bad_line HNK.out (by rintro ⟨c, hc⟩; obtain ⟨y1, y2⟩ := isCol_spl.1 hc; exact a2 rfl ⟨c, y1, HWS.out.symm.trans y2⟩))
                      clear HPOK HPBAD HAT HO3 hNL2 HD2 HU6 a1 a2 HNK HWS
                      have hVs := hV.set (.slice none 0 0) (.int .i64 0)
                      have hBs := set2_below hB (Nat.le_refl _) (.slice none 0 0) (.int .i64 0)
                      obtain ⟨q0, q1, q2, q3⟩ := hV
                      go_wp2_with fail
                      generalize (w3.setCell ⟨W.heap.size, 0, none⟩ (.slice none 0 0)).setCell ⟨W.heap.size, 1, none⟩ (.int .i64 0) = w9 at *
                      replace hVs := hVs.step ((Below.refl _ _).alloc (Nat.le_refl _) (.cells #[.string cnm, .int .i64 cty, .int .i64 csc, .bool cnu] 44))
                      replace hBs := hBs.alloc hBs.size (.cells #[.string cnm, .int .i64 cty, .int .i64 csc, .bool cnu] 44)
                      generalize w9.alloc (.cells #[.string cnm, .int .i64 cty, .int .i64 csc, .bool cnu] 44) = w8 at *
                      obtain ⟨m0, m1, _, _⟩ := hVs
                      refine bodyPost_ret (v := .tuple #[.agg #[.slice none 0 0, .int .i64 0], .int .i64 ((k + 1 : Nat) : Int), .int .i64 2]) (by simp [results, Try.results18, go_sem, m0, m1]) rfl ?_
                      exact PRS.none hE.out (by rfl) hBs
                    | true =>
                      have hcol : isCol t ⟨cnm, cty, csc, cnu⟩ := isCol_spl.2 ⟨(a1 rfl).1, HWS.out.trans (a1 rfl).2⟩
                      have HAT2 := Lib.hid (HAT.out.col HNK.out hcol)
                      clear a1 a2 HAT HPOK HPBAD hcol HNK HWS
                      obtain ⟨sv, hVS, hown⟩ := HO3.out
                      have hV4 := (hV.step ((Below.refl _ _).alloc (Nat.le_refl _) (.cells #[.string cnm, .int .i64 cty, .int .i64 csc, .bool cnu] 44))).step ((Below.refl _ _).alloc (Nat.le_refl _) (.cells #[.string cnm, .int .i64 cty, .int .i64 csc, .bool cnu] 44))
                      have hVS4 := (hVS.step ((Below.refl _ _).alloc (Nat.le_refl _) (.cells #[.string cnm, .int .i64 cty, .int .i64 csc, .bool cnu] 44))).step ((Below.refl _ _).alloc (Nat.le_refl _) (.cells #[.string cnm, .int .i64 cty, .int .i64 csc, .bool cnu] 44))
                      have hB4 := (hB.alloc hB.size (.cells #[.string cnm, .int .i64 cty, .int .i64 csc, .bool cnu] 44)).alloc (by have := hB.size; simp; omega) (.cells #[.string cnm, .int .i64 cty, .int .i64 csc, .bool cnu] 44)
                      have hsz4 : W.heap.size + 2 ≤ ((w3.alloc (.cells #[.string cnm, .int .i64 cty, .int .i64 csc, .bool cnu] 44)).alloc (.cells #[.string cnm, .int .i64 cty, .int .i64 csc, .bool cnu] 44)).heap.size := by simp; omega
                      have HCN := fun w => Lib.hid (cells_newC w ⟨cnm, cty, csc, cnu⟩ 44)
                      have HOWN := Lib.hid ((hown.alloc (.cells #[.string cnm, .int .i64 cty, .int .i64 csc, .bool cnu] 44)).alloc (.cells #[.string cnm, .int .i64 cty, .int .i64 csc, .bool cnu] 44))
                      have hcl : cs.length < 1000000 := by omega
                      clear HO3 hV hown hB
                      obtain ⟨s0, s1, s2, s3⟩ := hVS
                      go_wp2_with (at_builtin; refine wpl_appC rfl _ _ 32 rfl (W.heap.size + 2) 44 Try.underlying32 Try.infCol sv cs rfl HOWN.out (w3.heap.size + 1) 1 ⟨cnm, cty, csc, cnu⟩ rfl ?_ hcl hsz4 ?_)
                      · intro j u hj
                        have h1 := (HCN (w3.alloc (.cells #[.string cnm, .int .i64 cty, .int .i64 csc, .bool cnu] 44))).out j u hj
                        rw [show (w3.alloc (.cells #[.string cnm, .int .i64 cty, .int .i64 csc, .bool cnu] 44)).heap.size = w3.heap.size + 1 from by simp] at h1
                        first | exact h1 | exact hj
                      · intro v' w' ho hb2
                        obtain ⟨A', cap', rfl, _, _, _⟩ := ho.read
                        obtain ⟨cs', hcs'⟩ : ∃ cs', cs ++ [(⟨cnm, cty, csc, cnu⟩ : Col)] = cs' := ⟨_, rfl⟩
                        have hLN := Lib.hid (show cs'.length = cs.length + 1 from by rw [← hcs']; simp)
                        rw [hcs'] at ho HAT2 ⊢
                        clear hcs'
                        clear HCN HOWN s0 s1 s2 s3
                        generalize (w3.alloc (.cells #[.string cnm, .int .i64 cty, .int .i64 csc, .bool cnu] 44)).alloc (.cells #[.string cnm, .int .i64 cty, .int .i64 csc, .bool cnu] 44) = w4 at *
                        have hV5 := hV4.below hb2 (by omega)
                        have hVS5 := hVS4.below hb2 (by omega)
                        have hB5 := hB4.trans (hb2.mono (by omega))
                        have hsz5 : W.heap.size + 2 ≤ w'.heap.size := by have := hb2.size; omega
                        clear hV4 hVS4 hB4 hsz4 hb2
                        have hV6 := Lib.hid (hV5.other (c := W.heap.size + 1) (i := 0) (u := .slice A' cs'.length cap') (by omega))
                        have hVS6 := hVS5.set0 (.slice A' cs'.length cap')
                        have hB6 : Below W.heap.size W (w'.setCell ⟨W.heap.size + 1, 0, none⟩ (.slice A' cs'.length cap')) := hB5.setCell (p := ⟨W.heap.size + 1, 0, none⟩) (by show W.heap.size ≤ W.heap.size + 1; omega) _
                        have ho6 : OwnC 44 (w'.setCell ⟨W.heap.size + 1, 0, none⟩ (.slice A' cs'.length cap')) (W.heap.size + 2) (.slice A' cs'.length cap') cs' := ownsRow_setCell_below ho (a := ⟨W.heap.size + 1, 0, none⟩) (by show W.heap.size + 1 < W.heap.size + 2; omega) _
                        have hsz6 : W.heap.size + 2 ≤ (w'.setCell ⟨W.heap.size + 1, 0, none⟩ (.slice A' cs'.length cap')).heap.size := by rw [World.size_setCell]; exact hsz5
                        have HO6 : Hid (∃ v, Var2 (w'.setCell ⟨W.heap.size + 1, 0, none⟩ (.slice A' cs'.length cap')) (W.heap.size + 1) v (.int .i64 0) ∧ OwnC 44 (w'.setCell ⟨W.heap.size + 1, 0, none⟩ (.slice A' cs'.length cap')) (W.heap.size + 2) v cs') := Lib.hid ⟨_, hVS6, ho6⟩
                        clear hVS6 ho6 hV5 hB5 hsz5 ho
                        obtain ⟨s0, s1, s2, s3⟩ := hVS5
                        go_wp2_with fail
                        go_roundw
                        case rel => exact ⟨ts, cs', n, k + 1, 0, p + 1, rfl, rfl, rfl, rfl, by go_num, by go_num, by omega, by rw [hLN.out]; omega, by omega, by omega, hB6, hsz6, HD2, hNL2, HAT2, hV6, HO6⟩
                        case measure => simp [intOf] <;> omega
                  · rw [hk2] at HC HRD ⊢
                    clear hk2 h1w hcap
                    generalize str (ws.getD 0 []) = X0 at *

                    go_wp2_with fail
                    refine (HC _ HRD.out).out.mono ?_
                    rintro e w3 ⟨hb, ⟨cnm, cty, csc, cnu⟩, b, rfl, a1, a2, _⟩
                    replace hB := bel_trans hB hb
                    replace hV := hV.step hb
                    have hsz3 : W.heap.size + 2 ≤ w3.heap.size := by have := hb.size; omega
                    have hlt3 : W.heap.size < w3.heap.size := by omega
                    have hlt4 : W.heap.size + 1 < w3.heap.size := by omega
                    have HO3 : Hid (∃ v, Var2 w3 (W.heap.size + 1) v (.int .i64 0) ∧ OwnC 44 w3 (W.heap.size + 2) v cs) := Lib.hid (by
                      obtain ⟨v, h1, h2⟩ := HO2.out
                      exact ⟨v, h1.step hb, h2.below hb⟩)
                    clear HC HRD HO2 hsz2 hb HX
                    unfold Col.val
                    simp only at a1 a2 ⊢
                    cases b with
                    | false =>
                      have hE := HPBAD _ (HAT.out.bad_line HNK.out (by rintro ⟨c, hc⟩; obtain ⟨y1, y2⟩ := isCol_spl.1 hc; exact a2 rfl ⟨c, y1, HWS.out.symm.trans y2⟩))
                      clear HPOK HPBAD HAT HO3 hNL2 HD2 HU6 a1 a2 HNK HWS
                      have hVs := hV.set (.slice none 0 0) (.int .i64 0)
                      have hBs := set2_below hB (Nat.le_refl _) (.slice none 0 0) (.int .i64 0)
                      obtain ⟨q0, q1, q2, q3⟩ := hV
                      go_wp2_with fail
                      generalize (w3.setCell ⟨W.heap.size, 0, none⟩ (.slice none 0 0)).setCell ⟨W.heap.size, 1, none⟩ (.int .i64 0) = w9 at *
                      replace hVs := hVs.step ((Below.refl _ _).alloc (Nat.le_refl _) (.cells #[.string cnm, .int .i64 cty, .int .i64 csc, .bool cnu] 44))
                      replace hBs := hBs.alloc hBs.size (.cells #[.string cnm, .int .i64 cty, .int .i64 csc, .bool cnu] 44)
                      generalize w9.alloc (.cells #[.string cnm, .int .i64 cty, .int .i64 csc, .bool cnu] 44) = w8 at *
                      obtain ⟨m0, m1, _, _⟩ := hVs
                      refine bodyPost_ret (v := .tuple #[.agg #[.slice none 0 0, .int .i64 0], .int .i64 ((k + 1 : Nat) : Int), .int .i64 2]) (by simp [results, Try.results18, go_sem, m0, m1]) rfl ?_
                      exact PRS.none hE.out (by rfl) hBs
                    | true =>
                      have hcol : isCol t ⟨cnm, cty, csc, cnu⟩ := isCol_spl.2 ⟨(a1 rfl).1, HWS.out.trans (a1 rfl).2⟩
                      have HAT2 := Lib.hid (HAT.out.col HNK.out hcol)
                      clear a1 a2 HAT HPOK HPBAD hcol HNK HWS
                      obtain ⟨sv, hVS, hown⟩ := HO3.out
                      have hV4 := (hV.step ((Below.refl _ _).alloc (Nat.le_refl _) (.cells #[.string cnm, .int .i64 cty, .int .i64 csc, .bool cnu] 44))).step ((Below.refl _ _).alloc (Nat.le_refl _) (.cells #[.string cnm, .int .i64 cty, .int .i64 csc, .bool cnu] 44))
                      have hVS4 := (hVS.step ((Below.refl _ _).alloc (Nat.le_refl _) (.cells #[.string cnm, .int .i64 cty, .int .i64 csc, .bool cnu] 44))).step ((Below.refl _ _).alloc (Nat.le_refl _) (.cells #[.string cnm, .int .i64 cty, .int .i64 csc, .bool cnu] 44))
                      have hB4 := (hB.alloc hB.size (.cells #[.string cnm, .int .i64 cty, .int .i64 csc, .bool cnu] 44)).alloc (by have := hB.size; simp; omega) (.cells #[.string cnm, .int .i64 cty, .int .i64 csc, .bool cnu] 44)
                      have hsz4 : W.heap.size + 2 ≤ ((w3.alloc (.cells #[.string cnm, .int .i64 cty, .int .i64 csc, .bool cnu] 44)).alloc (.cells #[.string cnm, .int .i64 cty, .int .i64 csc, .bool cnu] 44)).heap.size := by simp; omega
                      have HCN := fun w => Lib.hid (cells_newC w ⟨cnm, cty, csc, cnu⟩ 44)
                      have HOWN := Lib.hid ((hown.alloc (.cells #[.string cnm, .int .i64 cty, .int .i64 csc, .bool cnu] 44)).alloc (.cells #[.string cnm, .int .i64 cty, .int .i64 csc, .bool cnu] 44))
                      have hcl : cs.length < 1000000 := by omega
                      clear HO3 hV hown hB
                      obtain ⟨s0, s1, s2, s3⟩ := hVS
                      go_wp2_with (at_builtin; refine wpl_appC rfl _ _ 32 rfl (W.heap.size + 2) 44 Try.underlying32 Try.infCol sv cs rfl HOWN.out (w3.heap.size + 1) 1 ⟨cnm, cty, csc, cnu⟩ rfl ?_ hcl hsz4 ?_)
                      · intro j u hj
                        have h1 := (HCN (w3.alloc (.cells #[.string cnm, .int .i64 cty, .int .i64 csc, .bool cnu] 44))).out j u hj
                        rw [show (w3.alloc (.cells #[.string cnm, .int .i64 cty, .int .i64 csc, .bool cnu] 44)).heap.size = w3.heap.size + 1 from by simp] at h1
                        first | exact h1 | exact hj
                      · intro v' w' ho hb2
                        obtain ⟨A', cap', rfl, _, _, _⟩ := ho.read
                        obtain ⟨cs', hcs'⟩ : ∃ cs', cs ++ [(⟨cnm, cty, csc, cnu⟩ : Col)] = cs' := ⟨_, rfl⟩
                        have hLN := Lib.hid (show cs'.length = cs.length + 1 from by rw [← hcs']; simp)
                        rw [hcs'] at ho HAT2 ⊢
                        clear hcs'
                        clear HCN HOWN s0 s1 s2 s3
                        generalize (w3.alloc (.cells #[.string cnm, .int .i64 cty, .int .i64 csc, .bool cnu] 44)).alloc (.cells #[.string cnm, .int .i64 cty, .int .i64 csc, .bool cnu] 44) = w4 at *
                        have hV5 := hV4.below hb2 (by omega)
                        have hVS5 := hVS4.below hb2 (by omega)
                        have hB5 := hB4.trans (hb2.mono (by omega))
                        have hsz5 : W.heap.size + 2 ≤ w'.heap.size := by have := hb2.size; omega
                        clear hV4 hVS4 hB4 hsz4 hb2
                        have hV6 := Lib.hid (hV5.other (c := W.heap.size + 1) (i := 0) (u := .slice A' cs'.length cap') (by omega))
                        have hVS6 := hVS5.set0 (.slice A' cs'.length cap')
                        have hB6 : Below W.heap.size W (w'.setCell ⟨W.heap.size + 1, 0, none⟩ (.slice A' cs'.length cap')) := hB5.setCell (p := ⟨W.heap.size + 1, 0, none⟩) (by show W.heap.size ≤ W.heap.size + 1; omega) _
                        have ho6 : OwnC 44 (w'.setCell ⟨W.heap.size + 1, 0, none⟩ (.slice A' cs'.length cap')) (W.heap.size + 2) (.slice A' cs'.length cap') cs' := ownsRow_setCell_below ho (a := ⟨W.heap.size + 1, 0, none⟩) (by show W.heap.size + 1 < W.heap.size + 2; omega) _
                        have hsz6 : W.heap.size + 2 ≤ (w'.setCell ⟨W.heap.size + 1, 0, none⟩ (.slice A' cs'.length cap')).heap.size := by rw [World.size_setCell]; exact hsz5
                        have HO6 : Hid (∃ v, Var2 (w'.setCell ⟨W.heap.size + 1, 0, none⟩ (.slice A' cs'.length cap')) (W.heap.size + 1) v (.int .i64 0) ∧ OwnC 44 (w'.setCell ⟨W.heap.size + 1, 0, none⟩ (.slice A' cs'.length cap')) (W.heap.size + 2) v cs') := Lib.hid ⟨_, hVS6, ho6⟩
                        clear hVS6 ho6 hV5 hB5 hsz5 ho
                        obtain ⟨s0, s1, s2, s3⟩ := hVS5
                        go_wp2_with fail
                        go_roundw
                        case rel => exact ⟨ts, cs', n, k + 1, 0, p + 1, rfl, rfl, rfl, rfl, by go_num, by go_num, by omega, by rw [hLN.out]; omega, by omega, by omega, hB6, hsz6, HD2, hNL2, HAT2, hV6, HO6⟩
                        case measure => simp [intOf] <;> omega
            · have hE := HPBAD _ (HAT.out.bad_line (no_key hmem) (no_col hmem))
              clear HPOK HPBAD HAT HO2 hNL2 HD2 HU6 hb hmem
              have hVs := hV.set (.slice none 0 0) (.int .i64 0)
              have hBs := set2_below hB (Nat.le_refl _) (.slice none 0 0) (.int .i64 0)
              obtain ⟨q0, q1, q2, q3⟩ := hV
              go_wp2_with fail
              generalize (w2.setCell ⟨W.heap.size, 0, none⟩ (.slice none 0 0)).setCell ⟨W.heap.size, 1, none⟩ (.int .i64 0) = w9 at *
              obtain ⟨m0, m1, _, _⟩ := hVs
              refine bodyPost_ret (v := .tuple #[.agg #[.slice none 0 0, .int .i64 0], .int .i64 ((k + 1 : Nat) : Int), .int .i64 2]) (by simp [results, Try.results18, go_sem, m0, m1]) rfl ?_
              exact PRS.none hE.out (by rfl) hBs
    · have hu : unl ts tail = [] := by
        have h1 := congrArg List.length HD.out
        rw [List.length_drop] at h1
        have h2 := HSZ.out
        exact List.eq_nil_of_length_eq_zero (by omega)
      by_cases hq : q = 0
      · subst hq
        have hE := HPBAD _ (HAT.out.end0 hu)
        have hV := HV.out
        clear HPOK HPBAD HAT HO HNL HD hu HPC HB8 HSZ HV
        have hVs := hV.set (.slice none 0 0) (.int .i64 0)
        have hBs := set2_below hB (Nat.le_refl _) (.slice none 0 0) (.int .i64 0)
        obtain ⟨q0, q1, q2, q3⟩ := hV
        go_wp2_with fail
        generalize (wr.setCell ⟨W.heap.size, 0, none⟩ (.slice none 0 0)).setCell ⟨W.heap.size, 1, none⟩ (.int .i64 0) = w9 at *
        obtain ⟨m0, m1, _, _⟩ := hVs
        refine bodyPost_ret (v := .tuple #[.agg #[.slice none 0 0, .int .i64 0], .int .i64 0, .int .i64 2]) (by simp [results, Try.results18, go_sem, m0, m1]) rfl ?_
        exact PRS.none hE.out rfl hBs
      · have hE := HPOK _ _ _ (HAT.out.end1 (by omega) hu)
        have hdq : ((q : Int) == 0) = false := ieq_f (by omega)
        obtain ⟨sv, hVS, ho⟩ := HO.out
        have hV := HV.out
        obtain ⟨A, cap, rfl, _, _, _⟩ := ho.read
        have HF := Lib.hid (rfind_any cs (.slice A cs.length cap) 0 (str n) wr ho.read)
        have HC := fun v key (w : World) (h : RdC w w.heap.size v cs) => Lib.hid (rcheck_any cs v key w h)
        clear HPOK HPBAD HAT HO HNL HD hu HPC HB8 HSZ HV hq
        generalize str n = X at *
        have hVS' := hVS
        obtain ⟨l0, l1, g0, g1⟩ := hVS'
        go_wp2_with fail
        with_reducible refine HF.out.mono ?_
        rintro e w3 ⟨rfl, hb3⟩
        have hV3 := hV.step hb3
        have hVS3 := hVS.step hb3
        have hB3 := bel_trans hB hb3
        have ho3 := ho.below hb3
        clear l0 l1 g0 g1 hV hVS hB HF hb3 ho
        obtain ⟨F, hF⟩ : ∃ F, fnd cs X = F := ⟨_, rfl⟩
        rw [hF] at hE ⊢
        clear hF
        have hVS4 := hVS3.set1 (.int .i64 F)
        have hV4 := hV3.other (c := W.heap.size + 1) (i := 1) (u := .int .i64 F) (by omega)
        have ho4 : OwnC 44 (w3.setCell ⟨W.heap.size + 1, 1, none⟩ (.int .i64 F)) (W.heap.size + 2) (.slice A cs.length cap) cs := ownsRow_setCell_below ho3 (a := ⟨W.heap.size + 1, 1, none⟩) (by show W.heap.size + 1 < W.heap.size + 2; omega) _
        have hB4 : Below W.heap.size W (w3.setCell ⟨W.heap.size + 1, 1, none⟩ (.int .i64 F)) := hB3.setCell (p := ⟨W.heap.size + 1, 1, none⟩) (by show W.heap.size ≤ W.heap.size + 1; omega) _
        obtain ⟨l0, l1, g0, g1⟩ := hVS3
        clear hV3 hB3 ho3
        by_cases hF0 : F < 0
        · have hd : decide (F < 0) = true := decide_eq_true hF0
          have hE2 := Lib.hid (hE.out.trans (if_pos hF0))
          have hVs := hV4.set (.slice none 0 0) (.int .i64 0)
          have hBs := set2_below hB4 (Nat.le_refl _) (.slice none 0 0) (.int .i64 0)
          obtain ⟨q0, q1, q2, q3⟩ := hV4
          obtain ⟨l0', l1', _, _⟩ := hVS4
          clear hE HC hF0
          go_wp2_with fail
          generalize ((w3.setCell ⟨W.heap.size + 1, 1, none⟩ (.int .i64 F)).setCell ⟨W.heap.size, 0, none⟩ (.slice none 0 0)).setCell ⟨W.heap.size, 1, none⟩ (.int .i64 0) = w9 at *
          obtain ⟨m0, m1, _, _⟩ := hVs
          refine bodyPost_ret (v := .tuple #[.agg #[.slice none 0 0, .int .i64 0], .int .i64 (q : Int), .int .i64 3]) (by simp [results, Try.results18, go_sem, m0, m1]) rfl ?_
          exact PRS.none hE2.out rfl hBs
        · have hd : decide (F < 0) = false := decide_eq_false hF0
          have hE2 := Lib.hid (hE.out.trans (if_neg hF0))
          have HCc := Lib.hid (HC _ F _ ho4.read).out
          have hVS4' := hVS4
          obtain ⟨l0', l1', _, _⟩ := hVS4
          clear hE HC hF0
          go_wp2_with fail
          clear l0 l1 g0 g1 l0' l1'
          generalize w3.setCell ⟨W.heap.size + 1, 1, none⟩ (.int .i64 F) = w4 at *
          with_reducible refine HCc.out.mono ?_
          rintro e w6 ⟨rfl, hb6⟩
          have hB6 := bel_trans hB4 hb6
          have hV6 := hV4.step hb6
          have hVS6 := hVS4'.step hb6
          have ho6 := ho4.below hb6
          clear HCc hB4 hV4 hVS4' ho4 hb6
          obtain ⟨l0, l1, _, _⟩ := hVS6
          by_cases he : chkS cs F = 0
          · have hE3 := Lib.hid (hE2.out.trans (if_neg (fun h => h he)))
            have hd2 : ((chkS cs F : Int) != 0) = false := ine_f (by omega)
            have hVs := hV6.set (.slice A cs.length cap) (.int .i64 F)
            have hBs := set2_below hB6 (Nat.le_refl _) (.slice A cs.length cap) (.int .i64 F)
            have hos := ho6.set2 (show W.heap.size < W.heap.size + 2 by omega) (.slice A cs.length cap) (.int .i64 F)
            obtain ⟨q0, q1, q2, q3⟩ := hV6
            clear hE2 he ho6
            generalize chkS cs F = E at *
            go_wp2_with fail
            generalize (w6.setCell ⟨W.heap.size, 0, none⟩ (.slice A cs.length cap)).setCell ⟨W.heap.size, 1, none⟩ (.int .i64 F) = w9 at *
            obtain ⟨m0, m1, _, _⟩ := hVs
            refine bodyPost_ret (v := .tuple #[.agg #[.slice A cs.length cap, .int .i64 F], .int .i64 0, .int .i64 0]) (by simp [results, Try.results18, go_sem, m0, m1]) rfl ?_
            exact PRS.some hE3.out rfl (hos.lower (by omega)) hBs
          · have hE3 := Lib.hid (hE2.out.trans (if_pos he))
            have hd2 : ((chkS cs F : Int) != 0) = true := ine_t (by omega)
            have hVs := hV6.set (.slice none 0 0) (.int .i64 0)
            have hBs := set2_below hB6 (Nat.le_refl _) (.slice none 0 0) (.int .i64 0)
            obtain ⟨q0, q1, q2, q3⟩ := hV6
            clear hE2 he ho6
            generalize chkS cs F = E at *
            go_wp2_with fail
            generalize (w6.setCell ⟨W.heap.size, 0, none⟩ (.slice none 0 0)).setCell ⟨W.heap.size, 1, none⟩ (.int .i64 0) = w9 at *
            obtain ⟨m0, m1, _, _⟩ := hVs
            refine bodyPost_ret (v := .tuple #[.agg #[.slice none 0 0, .int .i64 0], .int .i64 0, .int .i64 (E : Int)]) (by simp [results, Try.results18, go_sem, m0, m1]) rfl ?_
            exact PRS.none hE3.out rfl hBs
end Go.Proofs.Ytfkdenlpailmeaa
