/- The words of a line; the reference's ReadNumber on at most two bytes. -/
import Derived.Test.YtfkdenlpailmeaaSchR1
import Derived.Test.YtfkdenlpailmeaaSchC3
namespace Go.SC
open Go.RowKit Go.VB Go.VL
def nulW : List UInt8 := [110, 117, 108, 108]
def colB (c : Col) : List (List UInt8) := c.nm.data.toList :: twL c.ty :: (if c.ty = 5 then [scL c.sc.toNat] else [])
/-- The words of a column's line. -/
def colW (c : Col) : List (List UInt8) := colB c ++ (if c.nu then [nulW] else [])
theorem spl_inj {l m : List UInt8} (h : spl l = spl m) : l = m := by rw [← join_spl l, h, join_spl]
theorem spl_app {a r : List UInt8} (h : 32 ∉ a) : spl (a ++ 32 :: r) = a :: spl r := spl_cut r h
theorem scL_nosp {n : Nat} (h : n < 100) : (32 : UInt8) ∉ scL n := fun hm => by have := scL_dig h _ hm; exact absurd this (by decide)
theorem scL_ne {n : Nat} (h : n < 100) : scL n ≠ [] := fun e => by have := (scL_len h).1; rw [e] at this; exact absurd this (by decide)
theorem spl_col {c : Col} (h : okC c) : spl (colL c) = colW c := by
  obtain ⟨⟨hn, hs⟩, ht, h5, hn5⟩ := h
  unfold colL colW colB
  rw [spl_app hs]
  have htw := twL_nosp ht
  by_cases h : c.ty = 5
  · have hsc := scL_nosp (n := c.sc.toNat) (by have := h5 h; omega)
    rw [if_pos h, h, typL_five]
    rw [h] at htw
    rw [List.append_assoc, List.cons_append, spl_app htw]
    cases c.nu with
    | true => unfold nulL nullL; simp only [if_true]; rw [spl_app hsc, spl_one (by decide)]; rfl
    | false => unfold nulL; simp only [Bool.false_eq_true, if_false, List.append_nil]; rw [spl_one hsc]
  · rw [if_neg h, typL_other h]
    cases c.nu with
    | true => unfold nulL nullL; simp only [if_true]; rw [spl_app htw, spl_one (by decide)]; rfl
    | false => unfold nulL; simp only [Bool.false_eq_true, if_false, List.append_nil]; rw [spl_one htw]
theorem isCol_spl {l : List UInt8} {c : Col} : isCol l c ↔ okC c ∧ spl l = colW c := by
  constructor
  · rintro ⟨h, rfl⟩; exact ⟨h, spl_col h⟩
  · rintro ⟨h, he⟩; exact ⟨h, spl_inj (he.trans (spl_col h).symm)⟩
theorem isKey_spl {l n : List UInt8} : isKey l n ↔ isW n ∧ spl l = [keyL, n] := by
  have e : ∀ n : List UInt8, 32 ∉ n → spl (keyL ++ 32 :: n) = [keyL, n] := fun n hn => by rw [spl_app (by decide), spl_one hn]
  constructor
  · rintro ⟨h, rfl⟩; exact ⟨h, e n h.2⟩
  · rintro ⟨h, he⟩; exact ⟨h, spl_inj (he.trans (e n h.2).symm)⟩
theorem colW_ne {c : Col} (h : okC c) : [] ∉ colW c := by
  obtain ⟨⟨hn, _⟩, ht, h5, _⟩ := h
  intro hm
  unfold colW colB at hm
  rcases List.mem_append.1 hm with hm | hm
  · rcases List.mem_cons.1 hm with e | hm
    · exact hn e.symm
    · rcases List.mem_cons.1 hm with e | hm
      · exact twL_ne ht e.symm
      · split at hm
        · exact scL_ne (by have := h5 (by assumption); omega) (List.mem_singleton.1 hm).symm
        · cases hm
  · split at hm
    · exact absurd (List.mem_singleton.1 hm) (by decide)
    · cases hm
theorem no_col {l : List UInt8} (h : [] ∈ spl l) : ¬ ∃ c, isCol l c := by
  rintro ⟨c, hc⟩
  obtain ⟨h1, h2⟩ := isCol_spl.1 hc
  rw [h2] at h; exact colW_ne h1 h
theorem no_key {l : List UInt8} (h : [] ∈ spl l) : ¬ ∃ n, isKey l n := by
  rintro ⟨n, hn⟩
  obtain ⟨h1, h2⟩ := isKey_spl.1 hn
  rw [h2] at h
  rcases List.mem_cons.1 h with e | e
  · exact absurd e (by decide)
  · exact h1.1 (List.mem_singleton.1 e).symm
/-- A line of words whose last is null, with more than two. -/
theorem colW_nul {c : Col} {ws : List (List UInt8)} (h : okC c) (he : ws = colW c) (h2 : 2 < ws.length) (hl : ws.getD (ws.length - 1) [] = nulW) : c.nu = true ∧ ws.take (ws.length - 1) = colB c := by
  cases hn : c.nu with
  | true =>
    refine ⟨rfl, ?_⟩
    rw [he]; unfold colW; rw [hn]; simp
  | false =>
    exfalso
    unfold colW colB at he
    rw [hn] at he
    by_cases h5 : c.ty = 5
    · rw [if_pos h5] at he
      simp only [Bool.false_eq_true, if_false, List.append_nil] at he
      rw [he] at hl
      have hl' : scL c.sc.toNat = nulW := hl
      have hd := scL_dig (n := c.sc.toNat) (by have := h.2.2.1 h5; omega) 110 (by rw [hl']; decide)
      exact absurd hd (by decide)
    · rw [if_neg h5] at he
      rw [he] at h2
      exact absurd h2 (by simp)
theorem colW_base {c : Col} (h : c.nu = false) : colW c = colB c := by unfold colW; rw [h]; simp
theorem colB_nu (c : Col) (b : Bool) : colB { c with nu := b } = colB c := rfl
theorem okC_nu {c : Col} (h : okC c) (b : Bool) : okC { c with nu := b } := h
/-- The list without its last. -/
theorem nul_back {ws : List (List UInt8)} (h2 : 2 < ws.length) (hl : ws.getD (ws.length - 1) [] = nulW) : ws = ws.take (ws.length - 1) ++ [nulW] := by
  conv => lhs; rw [← List.take_append_drop (ws.length - 1) ws]
  congr 1
  have h3 : ws.length - 1 < ws.length := by omega
  rw [List.drop_eq_getElem_cons h3]
  rw [List.getD_eq_getElem?_getD, List.getElem?_eq_getElem h3] at hl
  have hl' : ws[ws.length - 1] = nulW := hl
  rw [hl', show ws.length - 1 + 1 = ws.length from by omega, List.drop_length]
/-- Words that are not a column: the others. -/
theorem colB_len (c : Col) : (colB c).length = if c.ty = 5 then 3 else 2 := by unfold colB; split <;> rfl
/-- A line without ' null' at its end. -/
theorem colW_plain {c : Col} {ws : List (List UInt8)} (he : ws = colW c) (hn : ¬ (2 < ws.length ∧ ws.getD (ws.length - 1) [] = nulW)) : c.nu = false ∧ ws = colB c := by
  cases h : c.nu with
  | false => exact ⟨rfl, he.trans (colW_base h)⟩
  | true =>
    exfalso
    apply hn
    unfold colW at he
    rw [h] at he
    simp only [if_true] at he
    have hl := colB_len c
    rw [he]
    constructor
    · rw [List.length_append]; split at hl <;> simp <;> omega
    · simp
theorem plain_three {a b d : List UInt8} {n : Nat} (ha : isW a) (hn : n < 100) (hb : b = twL 5) (hd : d = scL n) : okC ⟨str a, 5, n, false⟩ ∧ [a, b, d] = colW ⟨str a, 5, n, false⟩ :=
  ⟨⟨ha, okTS_five hn⟩, by
    rw [colW_base rfl]
    unfold colB
    simp only [if_true, Int.toNat_natCast]
    rw [str_toList, hb, hd]⟩
theorem plain_two {a b : List UInt8} {ty : Int} (ha : isW a) (ht : okT ty = true) (h5 : ty ≠ 5) (hb : b = twL ty) : okC ⟨str a, ty, 0, false⟩ ∧ [a, b] = colW ⟨str a, ty, 0, false⟩ :=
  ⟨⟨ha, okTS_zero ht h5⟩, by
    rw [colW_base rfl]
    unfold colB
    simp only
    rw [if_neg h5, str_toList, hb]⟩
/-- A number of at most two bytes, or none. -/
def PNum (l : List UInt8) (w : World) : Ending → World → Prop := fun e w' => w = w' ∧ ∃ n c : Int, e = .returned (.tuple #[.int .i64 n, .int .i64 c]) ∧
  ((∃ m : Nat, m < 100 ∧ l = scL m ∧ n = m ∧ c = 0) ∨ (¬ isSc l ∧ (c ≠ 0 ∨ n < 0)))
theorem PNum.no {l : List UInt8} {w : World} {v : Value} {n c : Int} (h : ¬ isSc l) (hc : c ≠ 0 ∨ n < 0) (hv : v = .tuple #[.int .i64 n, .int .i64 c]) : PNum l w (.returned v) w := ⟨rfl, n, c, by rw [hv], .inr ⟨h, hc⟩⟩
theorem PNum.yes {l : List UInt8} {w : World} {v : Value} (h : isSc l) (hv : v = .tuple #[.int .i64 (valL l : Nat), .int .i64 0]) : PNum l w (.returned v) w := by
  obtain ⟨m, hm, rfl⟩ := h
  rw [scL_val hm] at hv
  exact ⟨rfl, m, 0, by rw [hv], .inl ⟨m, hm, rfl, rfl, rfl⟩⟩
theorem neg64s {v : Nat} (h : v ≤ 9223372036854775808) : IntKind.i64.wrap (IntKind.u64.wrap (-(v : Int))) = -(v : Int) := by
  rw [IntKind.wrap_i64, IntKind.wrap_u64]; omega
theorem isSc_dig {l : List UInt8} (h : isSc l) {k : Nat} (hk : k < l.length) : 48 ≤ (l.getD k 0).toNat ∧ (l.getD k 0).toNat ≤ 57 := by
  obtain ⟨n, hn, rfl⟩ := h
  exact scL_dig hn _ (by rw [List.getD_eq_getElem?_getD, List.getElem?_eq_getElem hk]; exact List.getElem_mem hk)
theorem isSc_lead {l : List UInt8} (h : isSc l) (h0 : (l.getD 0 0).toNat = 48) : l.length = 1 := by
  obtain ⟨n, hn, rfl⟩ := h
  rcases scL_lead hn with h | h
  · rw [h]; rfl
  · exact absurd (UInt8.toNat_inj.1 (by rw [h0]; rfl)) h
theorem isSc_all {l : List UInt8} (h1 : 1 ≤ l.length) (h2 : l.length ≤ 2) (hd : ∀ k, k < l.length → 48 ≤ (l.getD k 0).toNat ∧ (l.getD k 0).toNat ≤ 57) (h0 : ¬ ((l.getD 0 0).toNat = 48 ∧ 1 < l.length)) : isSc l := by
  refine isSc_of (all_dig fun i hi => by unfold digN; exact decide_eq_true (hd i hi)) h1 h2 ?_
  by_cases h : l.length = 1
  · by_cases h3 : (l.getD 0 0).toNat = 48
    · left
      match l, h with
      | [a], _ => rw [show a = 48 from UInt8.toNat_inj.1 (by have : a.toNat = 48 := h3; rw [this]; rfl)]
    · right; intro e; rw [e] at h3; exact h3 rfl
  · right; intro e; rw [e] at h0; exact h0 ⟨rfl, by omega⟩
end Go.SC
namespace Go.Proofs.Ytfkdenlpailmeaa
open Go.RowKit Go.VB Go.VL Go.SC
set_option linter.constructorNameAsVariable false
set_option maxRecDepth 100000 in
set_option maxHeartbeats 4000000 in
theorem rnum2_pos (l : List UInt8) (w : World) (h1 : 1 ≤ l.length) (h2 : l.length ≤ 2) (h45 : (l.getD 0 0).toNat ≠ 45) : Calls Try.prog 37 #[.string (str l)] w (PNum l w) := by
  have hb : ∀ (n : Nat) (h : n < (str l).size), ((str l)[n]'h).toNat = (l.getD n 0).toNat := fun n h => by rw [get_bN, bN_str]
  have hS := size_of l
  have HNO := Lib.hid (fun (h : ¬ isSc l) v hv => PNum.no (w := w) (v := v) (n := 0) (c := 2) h (.inl (by decide)) hv)
  have HYES := Lib.hid (fun (h : isSc l) v hv => PNum.yes (w := w) (v := v) h hv)
  have HDG := fun k => Lib.hid (fun (h : isSc l) (hk : k < l.length) => isSc_dig h hk)
  have HLD := Lib.hid (fun (h : isSc l) => isSc_lead h)
  have HALLS := Lib.hid (isSc_all h1 h2)
  have HT := fun j => Lib.hid (valL_take (l := l) (j := j))
  have HB := fun (hd : ∀ b ∈ l, 48 ≤ b.toNat ∧ b.toNat ≤ 57) j h => Lib.hid (show valL (l.take j) < 100 from Nat.lt_of_lt_of_le (valL_small hd j h) (by
    have : j ≤ 2 := by omega
    exact (Nat.pow_le_pow_right (by decide) this : 10 ^ j ≤ 10 ^ 2)))
  have HAD := Lib.hid (fun (h : ∀ k, k < l.length → 48 ≤ (l.getD k 0).toNat ∧ (l.getD k 0).toNat ≤ 57) => all_dig (l := l) fun i hi => by unfold digN; exact decide_eq_true (h i hi))
  have HALL : Hid (valL (l.take l.length) = valL l) := Lib.hid (by rw [List.take_length])
  generalize hP : PNum l w = P at *
  clear hP
  rw [← hS] at HT HB HDG HLD HALLS HALL HAD h1 h2
  clear hS
  have hbl : ∀ k, (l.getD k 0).toNat < 256 := fun k => UInt8.toNat_lt _
  generalize str l = S at *
  have hs0 : ((S.size : Int) == 0) = false := ieq_f (by omega)
  have hd45 : (((l.getD 0 0).toNat : Int) == 45) = false := ieq_f (by omega)
  have hg0 := hb 0
  have hb0 := hbl 0
  by_cases hz : (l.getD 0 0).toNat = 48 ∧ 1 < S.size
  · have hE := Lib.hid (HNO.out (fun h => by have := HLD.out h hz.1; omega))
    obtain ⟨hz1, hz2⟩ := hz
    clear HNO HYES HDG HLD HALLS HT HB HALL HAD hb hbl h45
    generalize (l.getD 0 0).toNat = V at *
    have hd48 : ((V : Int) == 48) = true := ieq_t (by omega)
    clear hz1
    go_enter Try.func37, Try.ntmps37
    go_wp2_with fail
    exact hE.out _ rfl
  · have hz2 : ((((l.getD 0 0).toNat : Int) == 48) = true ∧ ((decide ((1 : Int) < (S.size : Int))) = false)) ∨ ((((l.getD 0 0).toNat : Int) == 48) = false) := by
      by_cases h : (l.getD 0 0).toNat = 48
      · exact .inl ⟨ieq_t (by omega), decide_eq_false (by omega)⟩
      · exact .inr (ieq_f (by omega))
    have HALLS2 := Lib.hid (fun hd => HALLS.out hd hz)
    clear HALLS HLD h45 hz
    have hbk := Lib.hid hb
    have hblk := Lib.hid hbl
    clear hb hbl
    have hW : ∃ V, V = (l.getD 0 0).toNat := ⟨_, rfl⟩
    obtain ⟨V0, hV0⟩ := hW
    rw [← hV0] at hd45 hg0 hb0 hz2
    have HV0 := Lib.hid hV0
    clear hV0
    rcases hz2 with ⟨hz3, hz4⟩ | hz3
    all_goals
      go_enter Try.func37, Try.ntmps37
      go_wp2_with fail
      clear hs0 hd45 hz3 hg0 hb0 HV0
      go_loop [2, 3, 6] (fun r2 r3 i => ∃ k : Nat, r2 = .int .i64 0 ∧ r3 = .int .i64 0 ∧ i = .int .i64 k ∧ k ≤ S.size ∧ ∀ m, m < k → 48 ≤ (l.getD m 0).toNat ∧ (l.getD m 0).toNat ≤ 57) (fun _ _ i => S.size - (intOf i).toNat)
      case atStart => exact ⟨0, rfl, rfl, rfl, Nat.zero_le _, fun m hm => absurd hm (Nat.not_lt_zero m)⟩
      case round =>
        obtain ⟨k, rfl, rfl, rfl, hk, hf⟩ := hrel
        have HP := Lib.hid hf; clear hf
        by_cases hlt : k < S.size
        · have hgk := hbk.out k
          have hbl := hblk.out k
          have hno := fun (h : ¬ (48 ≤ (l.getD k 0).toNat ∧ (l.getD k 0).toNat ≤ 57)) => Lib.hid (HNO.out (fun hs => h ((HDG k).out hs hlt)))
          have HN := fun h => Lib.hid (snoc (p := fun m => 48 ≤ (l.getD m 0).toNat ∧ (l.getD m 0).toNat ≤ 57) (j := k) HP.out h)
          clear HP HDG HNO HYES HALLS2 HT HB HALL HAD hbk hblk
          generalize (l.getD k 0).toNat = V at *
          by_cases hd1 : V < 48
          · have hE := hno (by omega)
            clear hno HN
            go_wp2_with fail
            exact hE.out _ rfl
          · by_cases hd2 : 57 < V
            · have hE := hno (by omega)
              clear hno HN
              go_wp2_with fail
              exact hE.out _ rfl
            · have hN := HN ⟨by omega, by omega⟩
              clear hno HN
              go_wp2_with fail
              go_round
              case rel => exact ⟨k + 1, rfl, rfl, by go_num, hlt, hN.out⟩
              case measure => simp [intOf] <;> omega
        · obtain rfl : k = S.size := by omega
          have HB2 := HB (HAD.out HP.out)
          have hE := Lib.hid (HYES.out (HALLS2.out HP.out))
          have HP2 := HP
          clear HB HAD HYES HNO HALLS2 HDG HP
          go_wp2_with fail
          go_loop [7, 8] (fun u i => ∃ k : Nat, u = .int .u64 (valL (l.take k) : Nat) ∧ i = .int .i64 k ∧ k ≤ S.size) (fun _ i => S.size - (intOf i).toNat)
          case atStart => exact ⟨0, rfl, rfl, Nat.zero_le _⟩
          case round =>
            obtain ⟨k, rfl, rfl, hk⟩ := hrel
            have hv := (HB2 k hk).out
            by_cases hlt : k < S.size
            · have hgk := hbk.out k
              have hn := (HT k).out hlt
              have hdk := HP2.out k hlt
              clear HT HB2 HALL hbk hblk HP2
              have hn2 : ((valL (l.take (k + 1)) : Nat) : Int) = 10 * (valL (l.take k) : Nat) + (((l.getD k 0).toNat : Int) - 48) := by rw [hn]; omega
              have HN := Lib.hid hn2
              clear hn hn2
              generalize (l.getD k 0).toNat = V at *
              generalize valL (l.take k) = u at *
              go_wp2_with fail
              go_round
              case rel => exact ⟨k + 1, by rw [HN.out], by go_num, hlt⟩
              case measure => simp [intOf] <;> omega
            · obtain rfl : k = S.size := by omega
              have HA := HALL
              clear HT HB2 HALL hbk hblk HP2
              generalize valL (l.take S.size) = u at *
              have hdv : decide ((u : Int) < 9223372036854775808) = true := decide_eq_true (by omega)
              go_wp2_with fail
              exact hE.out _ (by rw [← HA.out])
theorem not_sc_minus {l : List UInt8} (h : 1 ≤ l.length) (h2 : (l.getD 0 0).toNat = 45) : ¬ isSc l := fun hs => by
  have := isSc_dig hs (k := 0) (by omega)
  omega
set_option maxRecDepth 100000 in
set_option maxHeartbeats 4000000 in
theorem rnum2_nil (w : World) : Calls Try.prog 37 #[.string ⟨#[]⟩] w (PNum [] w) := by
  have HNO := Lib.hid (fun v hv => PNum.no (l := []) (w := w) (v := v) (n := 0) (c := 2) (fun ⟨n, hn, h⟩ => scL_ne hn h.symm) (.inl (by decide)) hv)
  generalize PNum [] w = P at *
  go_enter Try.func37, Try.ntmps37
  go_wp2_with fail
  exact HNO.out _ rfl
set_option maxRecDepth 100000 in
set_option maxHeartbeats 4000000 in
theorem rnum2_minus (w : World) : Calls Try.prog 37 #[.string ⟨#[45]⟩] w (PNum [45] w) := by
  have HNO := Lib.hid (fun v hv => PNum.no (l := [45]) (w := w) (v := v) (n := 0) (c := 2) (not_sc_minus (by decide) rfl) (.inl (by decide)) hv)
  have hx : (⟨#[45]⟩ : ByteArray).extract 1 1 = ⟨#[]⟩ := rfl
  generalize PNum [45] w = P at *
  go_enter Try.func37, Try.ntmps37
  go_wp2_with fail
  exact HNO.out _ rfl
set_option maxRecDepth 100000 in
set_option maxHeartbeats 4000000 in
theorem rnum2_neg (b : UInt8) (w : World) : Calls Try.prog 37 #[.string (str [45, b])] w (PNum [45, b] w) := by
  have hns : ¬ isSc [45, b] := not_sc_minus (by simp) rfl
  have HNO := Lib.hid (fun n c h v hv => PNum.no (w := w) (v := v) (n := n) (c := c) hns h hv)
  have hg0 : ∀ (h : 0 < (str [45, b]).size), ((str [45, b])[0]'h).toNat = 45 := fun h => by rw [get_bN, bN_str]; rfl
  have hx : (str [45, b]).extract 1 (str [45, b]).size = str [b] := rfl
  have hx2 : (str [45, b]).extract 1 2 = str [b] := rfl
  have hS : (str [45, b]).size = 2 := rfl
  have hT : (str [b]).size = 1 := rfl
  have hgT : ∀ (h : 0 < (str [b]).size), ((str [b])[0]'h).toNat = b.toNat := fun h => by rw [get_bN, bN_str]; rfl
  have hbl : b.toNat < 256 := UInt8.toNat_lt _
  generalize PNum [45, b] w = P at *
  generalize str [45, b] = S at *
  generalize str [b] = T at *
  generalize b.toNat = V at *
  clear hns
  have hS1 : 1 ≤ S.size := by omega
  have hS2 : S.size ≤ 2 := by omega
  have hT1 : 1 ≤ T.size := by omega
  have hT2 : T.size ≤ 1 := by omega
  clear hS hT
  have ht0 : ((T.size : Int) == 0) = false := ieq_f (by omega)
  by_cases h48 : V = 48
  · have hd : ((V : Int) == 48) = true := ieq_t (by omega)
    have hE := Lib.hid (HNO.out 0 2 (.inl (by decide)))
    clear h48 HNO
    go_enter Try.func37, Try.ntmps37
    go_wp2_with fail
    exact hE.out _ rfl
  have hd : ((V : Int) == 48) = false := ieq_f (by omega)
  go_enter Try.func37, Try.ntmps37
  go_wp2_with fail
  have HG := Lib.hid hgT
  clear hgT hg0 hx hx2 hS1 hS2 ht0 hd
  go_loop [2, 3, 6] (fun r2 r3 i => ∃ k : Nat, r2 = .int .i64 0 ∧ r3 = .int .i64 0 ∧ i = .int .i64 k ∧ k ≤ T.size ∧ (0 < k → 48 ≤ V ∧ V ≤ 57)) (fun _ _ i => T.size - (intOf i).toNat)
  case atStart => exact ⟨0, rfl, rfl, rfl, Nat.zero_le _, fun h => absurd h (Nat.lt_irrefl 0)⟩
  case round =>
    obtain ⟨k, rfl, rfl, rfl, hk, hf⟩ := hrel
    by_cases hlt : k < T.size
    · obtain rfl : k = 0 := by omega
      have hgk := HG.out
      have hE := Lib.hid (HNO.out 0 2 (.inl (by decide)))
      clear hf HNO HG
      by_cases hd1 : V < 48
      · go_wp2_with fail
        exact hE.out _ rfl
      · by_cases hd2 : 57 < V
        · go_wp2_with fail
          exact hE.out _ rfl
        · go_wp2_with fail
          go_round
          case rel => exact ⟨1, rfl, rfl, by go_num, by omega, fun _ => ⟨by omega, by omega⟩⟩
          case measure => simp [intOf] <;> omega
    · obtain ⟨hv1, hv2⟩ := hf (by omega)
      obtain rfl : k = T.size := by omega
      clear hf
      go_wp2_with fail
      clear hlt hk
      go_loop [7, 8] (fun u i => ∃ k : Nat, i = .int .i64 k ∧ k ≤ T.size ∧ u = .int .u64 (if k = 0 then 0 else ((V - 48 : Nat) : Int))) (fun _ i => T.size - (intOf i).toNat)
      case atStart => exact ⟨0, rfl, Nat.zero_le _, rfl⟩
      case round =>
        obtain ⟨k, rfl, hk, rfl⟩ := hrel
        by_cases hlt : k < T.size
        · obtain rfl : k = 0 := by omega
          rw [if_pos rfl]
          have hgk := HG.out
          clear HG HNO
          go_wp2_with fail
          go_round
          case rel => exact ⟨1, by go_num, by omega, by rw [if_neg (by decide)]; go_num⟩
          case measure => simp [intOf] <;> omega
        · rw [if_neg (by omega)]
          obtain ⟨u, hu⟩ : ∃ u : Nat, V - 48 = u := ⟨_, rfl⟩
          rw [hu]
          have hu1 : 1 ≤ u := by omega
          have hu2 : u ≤ 9 := by omega
          have hE := Lib.hid (HNO.out (-(u : Int)) 0 (.inr (by omega)))
          have hdv : decide ((u : Int) ≤ 9223372036854775808) = true := decide_eq_true (by omega)
          have hw := neg64s (v := u) (by omega)
          obtain rfl : k = T.size := by omega
          clear HNO HG hu hv1 hv2 h48 hbl
          go_wp2_with fail
          exact hE.out _ (by rw [← hw])
theorem rnum2_any (l : List UInt8) (w : World) (hl : l.length ≤ 2) : Calls Try.prog 37 #[.string (str l)] w (PNum l w) := by
  match l, hl with
  | [], _ => exact rnum2_nil w
  | [a], _ =>
    by_cases h : a.toNat = 45
    · obtain rfl : a = 45 := UInt8.toNat_inj.1 (by rw [h]; rfl)
      exact rnum2_minus w
    · exact rnum2_pos [a] w (by simp) (by simp) h
  | [a, b], _ =>
    by_cases h : a.toNat = 45
    · obtain rfl : a = 45 := UInt8.toNat_inj.1 (by rw [h]; rfl)
      exact rnum2_neg b w
    · exact rnum2_pos [a, b] w (by simp) (by simp) h
end Go.Proofs.Ytfkdenlpailmeaa
