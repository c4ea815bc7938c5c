/- The walks over texts of bytes: package value's parseBytes and the reference's readBytes. -/
import Derived.Test.YtidlemedkjkmdaaDoorDecW5
import Derived.Test.YtidlemedkjkmdaaDoorValW8
import Derived.Test.YtidlemedkjkmdaaDoorConfl3
namespace Go.VL
open Go.RowKit Go.VB Go.DT Go.DC
/-- The number of a hexadecimal digit, or 16. -/
def hv (c : Nat) : Nat := if 48 ≤ c ∧ c ≤ 57 then c - 48 else if 97 ≤ c ∧ c ≤ 102 then c - 87 else 16
theorem hv_lt {c : Nat} : hv c < 16 ↔ (48 ≤ c ∧ c ≤ 57) ∨ (97 ≤ c ∧ c ≤ 102) := by
  unfold hv; split
  · omega
  · split <;> omega
theorem hv_le (c : Nat) : hv c ≤ 16 := by unfold hv; split; omega; split <;> omega
def allH (t : ByteArray) : Prop := ∀ k, k < t.size → hv (bN t k) < 16
instance (t : ByteArray) : Decidable (allH t) := by unfold allH; infer_instance
/-- The bytes of the first n pairs of digits. -/
def bts (t : ByteArray) : Nat → List UInt8
  | 0 => []
  | n + 1 => bts t n ++ [UInt8.ofNat (16 * hv (bN t (2 * n)) + hv (bN t (2 * n + 1)))]
theorem bts_len (t : ByteArray) : ∀ n, (bts t n).length = n
  | 0 => rfl
  | n + 1 => by rw [bts, List.length_append, bts_len t n]; rfl
def inn (s : ByteArray) : ByteArray := s.extract 1 (s.size - 1)
def okQ (s : ByteArray) : Prop := 2 ≤ s.size ∧ s.size % 2 = 0 ∧ bN s 0 = 34 ∧ bN s (s.size - 1) = 34 ∧ allH (inn s)
instance (s : ByteArray) : Decidable (okQ s) := by unfold okQ; infer_instance
def BS (s : ByteArray) : ByteArray := if okQ s ∧ s.size ≤ 130 then str (bts (inn s) ((s.size - 2) / 2)) else ⟨#[]⟩
def BC (s : ByteArray) : Nat := if okQ s then (if s.size ≤ 130 then 0 else 4) else 2
theorem BS_form {s : ByteArray} (h : ¬ okQ s) : BS s = ⟨#[]⟩ := if_neg fun hk => h hk.1
theorem BC_form {s : ByteArray} (h : ¬ okQ s) : BC s = 2 := if_neg h
theorem BS_over {s : ByteArray} (h : ¬ s.size ≤ 130) : BS s = ⟨#[]⟩ := if_neg fun hk => h hk.2
theorem BC_over {s : ByteArray} (h : okQ s) (h2 : ¬ s.size ≤ 130) : BC s = 4 := by unfold BC; rw [if_pos h, if_neg h2]
theorem BS_in {s : ByteArray} (h : okQ s) (h2 : s.size ≤ 130) : BS s = str (bts (inn s) ((s.size - 2) / 2)) := if_pos ⟨h, h2⟩
theorem BC_in {s : ByteArray} (h : okQ s) (h2 : s.size ≤ 130) : BC s = 0 := by unfold BC; rw [if_pos h, if_pos h2]
theorem or16 : ∀ a b : Nat, a < 16 → b < 16 → bits .or .u8 ((a : Int) * 16) (b : Int) = (a : Int) * 16 + b := by
  have h : ∀ a b : Fin 16, bits .or .u8 ((a.val : Int) * 16) (b.val : Int) = (a.val : Int) * 16 + b.val := by decide +kernel
  intro a b ha hb
  exact h ⟨a, ha⟩ ⟨b, hb⟩
theorem OwnN_below8 {e : TypeId} {w w' : World} {base : Nat} {v : Value} {bs : List UInt8} (h : OwnB e w base v bs) (hb : Below w.heap.size w w') : OwnB e w' base v bs := by
  refine World.ownsRow.kept (row := none) h ⟨hb.os, hb.tape, hb.output, hb.size, fun b hlt _ => hb.block b hlt⟩ ?_
  rcases hv : v.ownBlock with _ | b
  · exact .inl rfl
  · exact .inr (by simp)
/-- A row of one byte, as an operation's result. -/
def One8 (c : Int) : Go.Confl.Post := fun v w => ∃ g m, v = .slice (some ⟨g, 0, none⟩) 1 m ∧ w.cell? ⟨g, 0, none⟩ = some (.int .u8 c)
theorem One8.stable (c : Int) : Go.Confl.Stable (One8 c) := fun _ w _ ⟨g, m, h1, h2⟩ hb => ⟨g, m, h1, (hb.cell (World.block_lt_of_cell? w _ h2)).trans h2⟩
end Go.VL
namespace Go.Proofs.YtidlemedkjkmdaaDoor
open Go.RowKit Go.VB Go.VL Go.DT Go.DC
set_option maxRecDepth 100000 in
set_option maxHeartbeats 1000000 in
theorem hexd_any (c : Nat) (w : World) (h : hv c < 16) : Calls Tryd.prog 50 #[.int .u8 (c : Int)] w (Ret (.int .u8 (hv c : Nat)) w) := by
  rcases hv_lt.1 h with ⟨h1, h2⟩ | ⟨h1, h2⟩
  · have hv' : hv c = c - 48 := if_pos ⟨h1, h2⟩
    rw [hv']; clear hv' h
    go_enter Tryd.func50, Tryd.ntmps50
    go_wp2
    go_ret
    exact Ret.mk (vint (by omega))
  · have hv' : hv c = c - 87 := by unfold hv; rw [if_neg (by omega), if_pos ⟨h1, h2⟩]
    rw [hv']; clear hv' h
    go_enter Tryd.func50, Tryd.ntmps50
    go_wp2
    go_ret
    exact Ret.mk (vint (by omega))
set_option maxRecDepth 100000 in
set_option maxHeartbeats 2000000 in
theorem isHex_any (s : ByteArray) (w : World) (zs : s.size ≤ 140737488351232) : Calls Tryd.prog 49 #[.string s] w (Ret (.bool (decide (allH s))) w) := by
  have hb := get_bN s
  go_enter Tryd.func49, Tryd.ntmps49
  go_wp2
  go_loop [6] (fun i => ∃ j : Nat, i = .int .i64 j ∧ j ≤ s.size ∧ ∀ k, k < j → hv (bN s k) < 16) (fun i => s.size - (intOf i).toNat)
  case atStart => exact ⟨0, rfl, Nat.zero_le _, none_below⟩
  case round =>
    obtain ⟨j, rfl, hj, hf⟩ := hrel
    have HF := Lib.hid hf; clear hf
    by_cases hlt : j < s.size
    · have hix := bN_lt s j
      have HE := fun (h : ¬ hv (bN s j) < 16) => Lib.hid (show decide (allH s) = false from decide_eq_false fun hd => h (hd j hlt))
      have HN := fun h => Lib.hid (snoc (p := fun k => hv (bN s k) < 16) (j := j) HF.out h)
      have hgj := hb j
      generalize hV : bN s j = V at *
      have HV := Lib.hid hV
      by_cases h1 : V < 48
      · have he := HE (fun h => by have := hv_lt.1 h; omega)
        have h2 : V < 97 := by omega
        clear HE HN
        go_wp2
        go_ret
        exact Ret.mk (congrArg Value.bool (by rw [he.out]))
      by_cases h2 : 57 < V
      · by_cases h3 : V < 97
        · have he := HE (fun h => by have := hv_lt.1 h; omega)
          clear HE HN
          go_wp2
          go_ret
          exact Ret.mk (congrArg Value.bool (by rw [he.out]))
        by_cases h4 : 102 < V
        · have he := HE (fun h => by have := hv_lt.1 h; omega)
          clear HE HN
          go_wp2
          go_ret
          exact Ret.mk (congrArg Value.bool (by rw [he.out]))
        · have he := HN (hv_lt.2 (.inr ⟨by omega, by omega⟩))
          clear HE HN
          go_wp2
          go_round
          case rel => exact ⟨j + 1, by go_num, hlt, he.out⟩
          case measure => simp [intOf] <;> omega
      · have he := HN (hv_lt.2 (.inl ⟨by omega, by omega⟩))
        clear HE HN
        go_wp2
        go_round
        case rel => exact ⟨j + 1, by go_num, hlt, he.out⟩
        case measure => simp [intOf] <;> omega
    · have he := Lib.hid (show decide (allH s) = true from decide_eq_true fun k hk => HF.out k (by omega))
      go_wp2
      go_ret
      exact Ret.mk (congrArg Value.bool (by rw [he.out]))
set_option maxRecDepth 100000 in
set_option maxHeartbeats 4000000 in
theorem pBytes_any (s : ByteArray) (W0 : World) (zs : s.size ≤ 140737488351232) : Calls Tryd.prog 32 #[.string s] W0 (RetB (.tuple #[.string (BS s), .int .i64 (BC s : Nat)]) W0) := by
  have HFORM : ¬ okQ s → Hid (Value.tuple #[.string (BS s), .int .i64 (BC s : Nat)] = .tuple #[.string ⟨#[]⟩, .int .i64 2]) := fun h => Lib.hid (by rw [BS_form h, BC_form h]; rfl)
  by_cases h2 : s.size < 2
  · have hno := HFORM fun h => by have := h.1; omega
    have hd : decide ((s.size : Int) - 1 < 1) = true := decide_eq_true (by omega)
    generalize Value.tuple #[.string (BS s), .int .i64 (BC s : Nat)] = R at *
    clear HFORM
    go_enter Tryd.func32, Tryd.ntmps32
    go_wp2
    go_ret2
    exact RetB.mk (by rw [hno.out]; rfl) (by go_grown)
  obtain ⟨n, hn⟩ : ∃ n, s.size = n + 1 := ⟨s.size - 1, by omega⟩
  have hn1 : 1 ≤ n := by omega
  have hl : (s.size : Int) - 1 = (n : Int) := by omega
  have hb0 := get_bN s 0
  have hbn := get_bN s n
  have hl0 := bN_lt s 0
  have hln := bN_lt s n
  have hz0 : 0 < s.size := by omega
  have hzn : n < s.size := by omega
  have hsn : s.size - 1 = n := by omega
  by_cases h3 : bN s 0 = 34
  · by_cases h4 : bN s n = 34
    · have hte : inn s = s.extract 1 n := by unfold inn; rw [hsn]
      have hts := size_extract s 1 n (by omega)
      obtain ⟨t, hx⟩ : ∃ t, s.extract 1 n = t := ⟨_, rfl⟩
      rw [hx] at hts hte
      have zt : t.size ≤ 140737488351232 := by omega
      have hq : okQ s ↔ (t.size % 2 = 0 ∧ allH t) := by
        unfold okQ; rw [hte, hsn]
        exact ⟨fun h => ⟨by have := h.2.1; omega, h.2.2.2.2⟩, fun h => ⟨by omega, by have := h.1; omega, h3, h4, h.2⟩⟩
      have HIS := fun w => Lib.hid (isHex_any t w zt)
      have HTS := Lib.hid hts
      clear hts
      by_cases h5 : t.size % 2 = 0
      · have hm2 : ((t.size : Int) % 2 != 0) = false := ine_f (by omega)
        have hm3 : (((t.size : Int)).tmod 2 != 0) = false := ine_f (by rw [Int.tmod_eq_emod_of_nonneg (by omega)]; omega)
        by_cases h6 : allH t
        · have hyes := hq.2 ⟨h5, h6⟩
          rw [decide_eq_true h6] at HIS
          by_cases h7 : s.size ≤ 130
          · have HR := Lib.hid (show Value.tuple #[.string (BS s), .int .i64 (BC s : Nat)] = .tuple #[.string (str (bts t (t.size / 2))), .int .i64 0] from by
              rw [BS_in hyes h7, BC_in hyes h7, hte, show (s.size - 2) / 2 = t.size / 2 from by rw [HTS.out]; omega]; rfl)
            generalize Value.tuple #[.string (BS s), .int .i64 (BC s : Nat)] = R at *
            have h128 : t.size ≤ 128 := by have := HTS.out; omega
            obtain ⟨m, hm⟩ : ∃ m, t.size / 2 = m := ⟨_, rfl⟩
            rw [hm] at HR
            have hm64 : m ≤ 64 := by omega
            have hq1 : (t.size : Int) / 2 = (m : Int) := by omega
            have hq2 : ((t.size : Int)).tdiv 2 = (m : Int) := by rw [Int.tdiv_eq_ediv_of_nonneg (by omega)]; omega
            have HMM := Lib.hid (show t.size = 2 * m from by omega)
            obtain ⟨i8, hi8, hz8, hsz8, hby8⟩ := info_parts Tryd.inf8
            have hmk := fun w => run_make (P := Tryd.prog) w 59 5 i8 (.int .u8 0) Tryd.underlying59 hi8 hz8 .i64 .i64 0 (m : Int) (by omega) (by omega) (by rw [hby8]; omega) (by omega)
            rw [hsz8, Nat.mul_one, Int.toNat_natCast] at hmk
            have hcv := fun (w : World) (v : Value) (bs : List UInt8) (B : Nat) (h : OwnB 5 w B v bs) => run_string_of_own (P := Tryd.prog) 59 9 5 Tryd.underlying59 Tryd.underlying5 Tryd.underlying9 h
            have HH := Lib.hid h6
            have HCV := Lib.hid hcv
            have HGT := Lib.hid (get_bN t)
            clear HFORM hq hyes h5 h6 hm hte h7 hcv hl0 hln
            go_enter Tryd.func32, Tryd.ntmps32
            go_wp2_with (go_at_call 49; refine (HIS _).out.mono ?_; rintro e w' ⟨rfl, rfl⟩)
            clear hmk HIS hb0 hbn h3 h4 hx hl hm2 hm3 hq1 hq2 hn hn1 hz0 hzn hsn
            go_loopw [6, 7] (fun v i wr => ∃ j : Nat, i = .int .i64 ((2 * j : Nat) : Int) ∧ j ≤ m ∧ OwnB 5 wr W0.heap.size v (bts t j) ∧ Below W0.heap.size W0 wr) (fun _ i _ => t.size - (intOf i).toNat)
            case atStart => exact ⟨0, rfl, Nat.zero_le _, World.ownsRow_made W0 _ _ (Nat.le_refl _) (by unfold maxLen; omega) (by rw [size_madeCells, Nat.mul_one]), (Below.refl _ _).alloc (Nat.le_refl _) _⟩
            case round =>
              obtain ⟨j, rfl, hj, hown, hbel⟩ := hrel
              by_cases hlt : j < m
              · have hj1 : 2 * j < t.size := by have := HMM.out; omega
                have hj2 : 2 * j + 1 < t.size := by have := HMM.out; omega
                have ha := HH.out (2 * j) hj1
                have hbb := HH.out (2 * j + 1) hj2
                have hg1 := HGT.out (2 * j)
                have hg2 := HGT.out (2 * j + 1)
                have hbs : bts t (j + 1) = bts t j ++ [UInt8.ofNat (16 * hv (bN t (2 * j)) + hv (bN t (2 * j + 1)))] := rfl
                have H1 := fun w => Lib.hid (hexd_any (bN t (2 * j)) w ha)
                have H2 := fun w => Lib.hid (hexd_any (bN t (2 * j + 1)) w hbb)
                generalize bN t (2 * j) = c1 at *
                generalize bN t (2 * j + 1) = c2 at *
                generalize hv c1 = a at *
                generalize hv c2 = b at *
                have hor := or16 a b ha hbb
                have hsh : IntKind.u8.wrap ((a : Int) * 16) = (a : Int) * 16 := IntWalk.u8_in _ ⟨by omega, by omega⟩
                have HBS := Lib.hid hbs
                have HOW := Lib.hid hown
                clear hbs hown
                generalize hJ : 2 * j = J at *
                have HJ := Lib.hid hJ
                clear hJ
                go_wp2_with fail
                refine Go.ConflA.wp_region_tail_at 13 (by simp only [List.take_succ_cons, List.take_zero, List.map_cons, List.map_nil]; rfl) (by kernel_rfl) (by kernel_rfl) (by kernel_rfl) (by kernel_rfl) (by kernel_rfl) (Nat.zero_lt_succ _) (by kernel_rfl) ?_
                simp only [List.take_succ_cons, List.take_zero, List.drop_succ_cons, List.drop_zero]
                iterate 12
                  first
                  | (refine Go.ConflA.chainA_skip (Go.Confl.unwanted_is rfl rfl) ?_)
                  | (first | apply Go.ConflA.chainA_is _ (Go.Confl.wanted_none rfl) | apply Go.ConflA.chainA_is _ (Go.Confl.wanted_is rfl rfl)
                     · intro b w hr hb K hK
                       simp [Go.Confl.readFacts, Go.Confl.tmpsOf, Go.Confl.writerOf, Go.Confl.Is, Op.operands, Call.operands, List.findIdx?, List.findIdx?.go] at hr
                       go_wp2_with (first
                         | (go_at_call 50; (with_reducible refine (H1 _).out.mono ?_); rintro e w' ⟨rfl, rfl⟩)
                         | (go_at_call 50; (with_reducible refine (H2 _).out.mono ?_); rintro e w' ⟨rfl, rfl⟩))
                       try (simp only [hr]; go_wp2)
                       exact hK _ _ rfl (by first | exact Below.refl _ _ | assumption))
                  simp only [List.nil_append, List.cons_append]
                apply Go.ConflA.chainA_any (One8 ((a : Int) * 16 + b)) (One8.stable _) (Go.Confl.wanted_none rfl)
                · intro f w hr hb K hK
                  simp [Go.Confl.readFacts, Go.Confl.tmpsOf, Go.Confl.writerOf, Go.Confl.Is, Op.operands, List.findIdx?, List.findIdx?.go] at hr
                  go_wp2_with fail
                  exact hK _ _ ⟨_, _, rfl, cell_new1 w _ _⟩ ((Below.refl _ _).alloc (Nat.le_refl _) _)
                simp only [List.nil_append, List.cons_append]
                intro us w hp hdist hb
                simp [Go.Confl.allPosts, Go.Confl.Is] at hp
                simp only [Go.Confl.putsFrom, Act.put, List.setIfInBounds_toArray, List.set_cons_zero, List.set_cons_succ]
                change wpList _ _ _ _ _ _
                obtain ⟨e0, e1, e2, e3, e4, e5, e6, e7, e8, e9, e10, e11, g, gm, e12, hcell⟩ := hp
                simp only [e0, e1, e2, e3, e4, e5, e6, e7, e8, e9, e10, e11, e12]
                clear e0 e1 e2 e3 e4 e5 e6 e7 e8 e9 e10 e11 e12 hdist H1 H2 hor hsh hg1 hg2
                have hown2 := OwnN_below8 HOW.out hb
                have hbel2 := hbel.trans ⟨hb.os, hb.tape, hb.output, hb.size, fun b hlt => hb.block b (Nat.lt_of_lt_of_le hlt hbel.size)⟩
                clear HOW hbel hb
                refine wpl_app1 rfl (.tmp 49) (.tmp 61) 59 rfl W0.heap.size 5 Tryd.underlying59 Tryd.inf8 _ _ rfl hown2 g gm _ rfl hcell (by omega) (by omega) (by rw [bts_len]; omega) hbel2.size ?_
                intro v' w' hown' hb'
                have hbel3 := hbel2.trans hb'
                rw [show UInt8.ofNat ((a : Int) * 16 + (b : Int)).toNat = UInt8.ofNat (16 * a + b) from by congr 1; omega, ← HBS.out] at hown'
                clear hown2 hcell hb' hbel2
                have HO := Lib.hid hown'
                clear hown'
                go_wp2
                go_roundw
                case rel => exact ⟨j + 1, by rw [show 2 * (j + 1) = 2 * j + 2 from by omega, HJ.out]; go_num, hlt, HO.out, hbel3⟩
                case measure => simp [intOf] <;> omega
              · obtain rfl : j = m := by omega
                have hcv := HCV.out _ _ _ _ hown
                have hlt2 : decide (((2 * j : Nat) : Int) < (t.size : Int)) = false := decide_eq_false (by have := HMM.out; omega)
                have hts2 : t.size = 2 * j := HMM.out
                clear HCV hown
                generalize hJ : 2 * j = J at *
                go_wp2
                go_ret2
                exact RetB.mk (by rw [HR.out]; rfl) hbel
          · have HR := Lib.hid (show Value.tuple #[.string (BS s), .int .i64 (BC s : Nat)] = .tuple #[.string ⟨#[]⟩, .int .i64 4] from by rw [BS_over h7, BC_over hyes h7]; rfl)
            generalize Value.tuple #[.string (BS s), .int .i64 (BC s : Nat)] = R at *
            have h128 : 128 < t.size := by have := HTS.out; omega
            clear HFORM hq hyes h5 h6 hte h7 hl0 hln
            go_enter Tryd.func32, Tryd.ntmps32
            go_wp2_with (go_at_call 49; refine (HIS _).out.mono ?_; rintro e w' ⟨rfl, rfl⟩)
            go_ret2
            exact RetB.mk (by rw [HR.out]; rfl) (Below.refl _ _)
        · have hno := HFORM fun h => h6 (hq.1 h).2
          rw [decide_eq_false h6] at HIS
          generalize Value.tuple #[.string (BS s), .int .i64 (BC s : Nat)] = R at *
          clear HFORM hq h5 h6 hte hl0 hln
          go_enter Tryd.func32, Tryd.ntmps32
          go_wp2_with (go_at_call 49; refine (HIS _).out.mono ?_; rintro e w' ⟨rfl, rfl⟩)
          go_ret2
          exact RetB.mk (by rw [hno.out]; rfl) (Below.refl _ _)
      · have hno := HFORM fun h => h5 (hq.1 h).1
        have hm2 : ((t.size : Int) % 2 != 0) = true := ine_t (by omega)
        have hm3 : (((t.size : Int)).tmod 2 != 0) = true := ine_t (by rw [Int.tmod_eq_emod_of_nonneg (by omega)]; omega)
        generalize Value.tuple #[.string (BS s), .int .i64 (BC s : Nat)] = R at *
        clear HFORM hq h5 hte HIS hl0 hln
        go_enter Tryd.func32, Tryd.ntmps32
        go_wp2
        go_ret2
        exact RetB.mk (by rw [hno.out]; rfl) (Below.refl _ _)
    · have hno := HFORM fun h => h4 (by have := h.2.2.2.1; rwa [hsn] at this)
      have hd4 : ((bN s n : Int) != 34) = true := ine_t (by omega)
      generalize Value.tuple #[.string (BS s), .int .i64 (BC s : Nat)] = R at *
      clear HFORM h4
      generalize bN s n = V at *
      generalize bN s 0 = V0 at *
      go_enter Tryd.func32, Tryd.ntmps32
      go_wp2
      go_ret2
      exact RetB.mk (by rw [hno.out]; rfl) (Below.refl _ _)
  · have hno := HFORM fun h => h3 h.2.2.1
    have hd4 : ((bN s 0 : Int) != 34) = true := ine_t (by omega)
    generalize Value.tuple #[.string (BS s), .int .i64 (BC s : Nat)] = R at *
    clear HFORM h3
    generalize bN s 0 = V at *
    go_enter Tryd.func32, Tryd.ntmps32
    go_wp2
    go_ret2
    exact RetB.mk (by rw [hno.out]; rfl) (Below.refl _ _)
end Go.Proofs.YtidlemedkjkmdaaDoor
