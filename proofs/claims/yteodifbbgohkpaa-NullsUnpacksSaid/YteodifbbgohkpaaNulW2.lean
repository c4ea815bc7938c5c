/- The walks over package nulls and its reference: Rank and Pack. -/
import Derived.Test.YteodifbbgohkpaaNulW1
import Derived.Deep.RegionWith
namespace Go.Proofs.Yteodifbbgohkpaa
open Go.RowKit Go.VB Go.BP Go.NU
theorem ncount_at (s : ByteArray) (n : Nat) (w : World) (hs : s.size ≤ 140737488351232) (hn : ones (num s) (8 * s.size) = n) :
    Calls Try.prog 12 #[.string s] w (Ret (.int .i64 (n : Int)) w) := by
  subst hn; exact ncount_any s w hs
set_option maxRecDepth 100000 in
set_option maxHeartbeats 1000000 in
theorem nrank_in (s : ByteArray) (c : Nat) (w : World) (hs : s.size ≤ 140737488351232) (hcl : c ≤ 8 * s.size) :
    Calls Try.prog 11 #[.string s, .int .i64 (c : Int)] w (RetB (.int .i64 (zer (num s) c : Nat)) w) := by
  have hb := get_bN s
  have hzo := zer_ones (num s) c
  have hw8 : c / 8 ≤ s.size := by omega
  have htk := ones_take s (c / 8) hw8
  have hpart := ones_part s (c / 8) (c % 8) (by omega)
  rw [show 8 * (c / 8) + c % 8 = c from by omega] at hpart
  have hle := ones_le (num s) (8 * (c / 8))
  have hcnt := fun w => ncount_at (s.extract 0 (c / 8)) (ones (num s) (8 * (c / 8))) w (by rw [ByteArray.size_extract]; omega) (by rw [ByteArray.size_extract, show min (c / 8) s.size - 0 = c / 8 from by omega]; exact htk)
  generalize ones (num s) (8 * (c / 8)) = A at *
  clear htk
  by_cases hlow : c % 8 = 0
  · have hA : A = ones (num s) c := by rw [← hpart, hlow, Nat.pow_zero, Nat.mod_one, ones_none, Nat.add_zero]
    have HA := Lib.hid hA; have HP := Lib.hid hpart; have HZ := Lib.hid hzo; clear hA hpart hzo
    have HC := fun w => Lib.hid (hcnt w); clear hcnt
    have hd : decide (0 < (c : Int) % 8) = false := decide_eq_false (by omega)
    have HL := Lib.hid hlow; clear hlow
    have hAc : A ≤ c := by omega
    go_enter Try.func11, Try.ntmps11
    go_wp2_with (go_at_call 12; (with_reducible refine (HC _).out.mono ?_); rintro e w' ⟨rfl, rfl⟩)
    go_ret
    exact RetB.mk (vint (by have h1 := HA.out; have h2 := HZ.out; omega)) (Below.refl _ _)
  · have hin : c / 8 < s.size := by omega
    have hbl := bN_lt s (c / 8)
    have hmk := mask_8' hbl (show c % 8 < 8 by omega)
    have hlt : bN s (c / 8) % 2 ^ (c % 8) < 256 := Nat.lt_of_le_of_lt (Nat.mod_le _ _) hbl
    have hon := fun w => nones_any (bN s (c / 8) % 2 ^ (c % 8)) w hlt
    have h8 := ones_le (bN s (c / 8) % 2 ^ (c % 8)) 8
    generalize bN s (c / 8) % 2 ^ (c % 8) = m at *
    generalize ones m 8 = q at *
    have HP := Lib.hid hpart; have HZ := Lib.hid hzo; clear hpart hzo
    have HC := fun w => Lib.hid (hcnt w); have HO := fun w => Lib.hid (hon w); clear hcnt hon
    have hd : decide (0 < (c : Int) % 8) = true := decide_eq_true (by omega)
    have HL := Lib.hid hlow; clear hlow
    have hAc : A + q ≤ c := by have h1 := HP.out; have h2 := HZ.out; omega
    go_enter Try.func11, Try.ntmps11
    go_wp2_with (go_at_call 12; (with_reducible refine (HC _).out.mono ?_); rintro e w' ⟨rfl, rfl⟩)
    go_region_with (first | (go_at_call 22; (with_reducible refine (HO _).out.mono ?_); rintro e w' ⟨rfl, rfl⟩))
    go_wp2
    go_ret
    exact RetB.mk (vint (by have h1 := HP.out; have h2 := HZ.out; omega)) (Below.refl _ _).drew
set_option maxRecDepth 100000 in
set_option maxHeartbeats 1000000 in
theorem nrank_any (s : ByteArray) (i : Int) (w : World) (hs : s.size ≤ 140737488351232) :
    Calls Try.prog 11 #[.string s, .int .i64 i] w (RetB (.int .i64 (rk s i : Nat)) w) := by
  by_cases h0 : i < 0
  · have hr : rk s i = 0 := by unfold rk clip; rw [show i.toNat = 0 by omega]; simp [zer]
    rw [hr]
    have hcnt : ∀ w, Calls Try.prog 12 #[.string ByteArray.empty] w (Ret (.int .i64 0) w) := fun w => ncount_at ByteArray.empty 0 w (by decide) rfl
    have HC := fun w => Lib.hid (hcnt w); clear hcnt
    go_enter Try.func11, Try.ntmps11
    go_wp2_with (go_at_call 12; (with_reducible refine (HC _).out.mono ?_); rintro e w' ⟨rfl, rfl⟩)
    go_ret
    exact RetB.mk rfl (Below.refl _ _)
  by_cases h1 : 8 * (s.size : Int) < i
  · have hr : rk s i = zer (num s) (8 * s.size) := by unfold rk clip; rw [Nat.min_eq_right (by omega)]
    have hzo := zer_ones (num s) (8 * s.size)
    have hcnt := fun w => ncount_any s w hs
    generalize ones (num s) (8 * s.size) = A at hzo hcnt
    have HR := Lib.hid hr; have HZ := Lib.hid hzo; clear hr
    have HC := fun w => Lib.hid (hcnt w); clear hcnt
    have hA : A ≤ 8 * s.size := by omega
    clear hzo
    go_enter Try.func11, Try.ntmps11
    go_wp2_with (go_at_call 12; (with_reducible refine (HC _).out.mono ?_); rintro e w' ⟨rfl, rfl⟩)
    go_ret
    exact RetB.mk (vint (by have h2 := HZ.out; rw [HR.out]; omega)) (Below.refl _ _)
  obtain ⟨c, rfl⟩ := Int.eq_ofNat_of_zero_le (show 0 ≤ i by omega)
  rw [rk_in (by omega)]
  exact nrank_in s c w hs (by omega)
set_option maxRecDepth 100000 in
set_option maxHeartbeats 1000000 in
theorem rrank_any (s : ByteArray) (i : Int) (w : World) (hs : s.size ≤ 140737488351232) :
    Calls Try.prog 20 #[.string s, .int .i64 i] w (Ret (.int .i64 (rk s i : Nat)) w) := by
  have hcl := clip_le s i
  have hci : ∀ j : Nat, ((j : Int) < i ∧ j < 8 * s.size) ↔ j < clip s i := fun j => by unfold clip; omega
  have hrk : rk s i = zer (num s) (clip s i) := rfl
  generalize clip s i = c at *
  have HR := Lib.hid hrk; have HI := Lib.hid hci; clear hrk hci
  go_enter Try.func20, Try.ntmps20
  go_wp2
  go_loop [5, 6] (fun k t => ∃ j : Nat, k = .int .i64 (zer (num s) j : Nat) ∧ t = .int .i64 j ∧ j ≤ c) (fun _ t => c - (intOf t).toNat)
  case atStart => exact ⟨0, rfl, rfl, Nat.zero_le _⟩
  case round =>
    obtain ⟨j, rfl, rfl, hj⟩ := hrel
    have hle := zer_le (num s) j
    have hst := zer_succ (num s) j
    have hcj := HI.out j
    generalize hk : zer (num s) j = k at hle hst ⊢
    have HS := Lib.hid hst; have HK := Lib.hid hk; clear hst hk
    by_cases hlt : j < c
    · obtain ⟨h1, h2⟩ := hcj.2 hlt
      clear hcj
      have hc := rbit_any s j w hs h2
      have HB : Hid (bitN (num s) j = decide (num s / 2 ^ j % 2 = 1)) := Lib.hid rfl
      have HM := Lib.hid (Nat.mod_lt (num s / 2 ^ j) (show 0 < 2 by decide))
      generalize bitN (num s) j = t at hc HB
      have HC := Lib.hid hc; clear hc
      cases t with
      | true =>
        go_wp2_with (go_at_call 25; refine HC.out.mono ?_; rintro e w' ⟨rfl, rfl⟩)
        go_round
        case rel => exact ⟨j + 1, vint (by have := of_decide_eq_true HB.out.symm; rw [HS.out, this]; push_cast; omega), by go_num, hlt⟩
        case measure => simp [intOf] <;> omega
      | false =>
        go_wp2_with (go_at_call 25; refine HC.out.mono ?_; rintro e w' ⟨rfl, rfl⟩)
        go_round
        case rel => exact ⟨j + 1, vint (by have := of_decide_eq_false HB.out.symm; have := HM.out; rw [HS.out]; omega), by go_num, hlt⟩
        case measure => simp [intOf] <;> omega
    · have hjs : j = c := by omega
      have hno : ¬ ((j : Int) < i ∧ j < 8 * s.size) := fun h => hlt (hcj.1 h)
      have hkk : zer (num s) c = k := by rw [← hjs]; exact HK.out
      have HKK := Lib.hid hkk; clear hkk hcj hjs
      by_cases h1 : (j : Int) < i
      · have h2 : ¬ j < 8 * s.size := fun h => hno ⟨h1, h⟩
        clear hno
        have hd : decide (j < 8 * s.size) = false := decide_eq_false h2
        go_wp2
        go_ret
        exact Ret.mk (by rw [HR.out, HKK.out]; rfl)
      · clear hno
        go_wp2
        go_ret
        exact Ret.mk (by rw [HR.out, HKK.out]; rfl)
theorem take_step {l : List Bool} {j : Nat} {b : Bool} (h : l[j]? = some b) : big 1 ((d01 l).take (j + 1)) = big 1 ((d01 l).take j) + b.toNat * 2 ^ j := by
  have hj : j < l.length := (List.getElem?_eq_some_iff.1 h).1
  rw [big_take (by rw [d01_len]; exact hj), d01_get h, Nat.one_mul]
theorem take_lim {l : List Bool} {j : Nat} (h : j ≤ l.length) : big 1 ((d01 l).take j) < 2 ^ j := by
  have := big_take_lt (w := 1) (l := d01 l) (j := j) (by rw [d01_len]; exact h) (fun x hx => d01_lt l x (List.mem_of_mem_take hx))
  rwa [Nat.one_mul] at this
set_option maxRecDepth 100000 in
set_option maxHeartbeats 2000000 in
theorem npack_any (vl : Value) (l : List Bool) (B : Nat) (w : World) (hr : RdV Value.bool w B vl l) (hB : B ≤ w.heap.size) (hl : l.length ≤ 140737488351232) :
    Calls Try.prog 10 #[vl] w (RetB (.string (bmp l)) w) := by
  obtain ⟨A, c, rfl, hc1, hc2, hr'⟩ := hr
  have hr : RdV Value.bool w B (.slice A l.length c) l := ⟨A, c, rfl, hc1, hc2, hr'⟩
  clear hr'
  unfold maxLen at hc2
  have HR := Lib.hid hr; clear hr
  have hm : (l.length + 7) / 8 ≤ 140737488351232 := by omega
  have hbm : bmp l = str ((digs 8 ((l.length + 7) / 8) (big 1 (d01 l))).map UInt8.ofNat) := by unfold bmp packed; rw [d01_len, Nat.mul_one]
  have HBM := Lib.hid hbm; clear hbm
  have HNB := fun w => Lib.hid (nbytes_any l.length w (by omega))
  generalize hM : (l.length + 7) / 8 = m at hm HBM HNB
  have HM := Lib.hid hM; clear hM
  have hmk := run_makeN (P := Try.prog) Try.underlying34 Try.infoB8 m (by omega) (by unfold maxLen; omega)
  have hrow := RowN.made .u8 5 w w.heap.size m (Nat.le_refl _) (by unfold maxLen; omega)
  have hb0 : Below w.heap.size w (w.alloc (.cells (madeCells #[.int .u8 0] m) 5)) := (Below.refl _ _).alloc (Nat.le_refl _) _
  generalize hW : (w.alloc (.cells (madeCells #[.int .u8 0] m) 5)) = W1 at hrow hb0
  have hmk1 := hmk w
  rw [hW] at hmk1
  clear hmk hW
  go_enter Try.func10, Try.ntmps10
  go_wp2_with (go_at_call 21; refine (HNB _).out.mono ?_; rintro e w' ⟨rfl, rfl⟩)
  clear hmk1
  go_loopw [12] (fun i wr => ∃ (j : Nat) (bs : List Nat), i = .int .i64 j ∧ j ≤ l.length ∧ RowN .u8 5 wr w.heap.size w.heap.size m bs ∧ bs.length = m ∧ (∀ x ∈ bs, x < 2 ^ 8) ∧
    big 8 bs = big 1 ((d01 l).take j) ∧ Below w.heap.size w wr) (fun i _ => l.length - (intOf i).toNat)
  case atStart => exact ⟨0, _, rfl, Nat.zero_le _, hrow, by simp, zeros_lt 8 m, by rw [big_zeros]; rfl, hb0⟩
  case round =>
    obtain ⟨j, bs, rfl, hj, hrw, hlen, hbs, hbig, hbel⟩ := hrel
    have HL := Lib.hid hlen; have HG := Lib.hid hbig; clear hlen hbig
    by_cases hlt : j < l.length
    · obtain ⟨A', c', hv', _, _, hcell⟩ := HR.out.below (hbel.mono hB)
      cases hv'
      have hlj : l[j]? = some l[j] := List.getElem?_eq_getElem hlt
      obtain ⟨ad, rfl, had, hcj⟩ := hcell j _ hlj
      clear hcell
      have hts := take_step hlj
      have hlim := take_lim hj
      generalize l[j] = b at *
      have HLJ := Lib.hid hlj; clear hlj
      cases b with
      | true =>
        have hin : j / 8 < bs.length := by have := HM.out; rw [HL.out]; omega
        have hat : j = 8 * (j / 8) + j % 8 := by omega
        have hlow : big 8 bs < 2 ^ (8 * (j / 8) + j % 8) := by rw [HG.out, ← hat]; exact hlim
        have hc := hrw.cell _ hin
        have hf := hrw.frozen (j / 8)
        have hBl := digit_lt hbs hlow
        obtain ⟨hor, hfit⟩ := or_bit (Nat.mod_lt j (by decide)) hBl
        have hset := big_set (w := 8) hin (2 ^ (j % 8))
        have hpow : 2 ^ (j % 8) * 2 ^ (8 * (j / 8)) = 2 ^ j := by rw [← Nat.pow_add]; congr 1; omega
        have hst := hrw.store (j / 8) (bs.getD (j / 8) 0 + 2 ^ (j % 8))
        rw [← hor] at hst
        have hin2 : j / 8 < m := by rw [← HL.out]; exact hin
        generalize bs.getD (j / 8) 0 = B0 at *
        have HSE := Lib.hid hset; have HPO := Lib.hid hpow; have HAT := Lib.hid hat; have HTS := Lib.hid hts; have HO := Lib.hid hor
        clear hset hpow hat hts hlow hBl hor
        go_wp2_with fail
        go_region
        go_wp2_with fail
        clear hc hf
        go_roundw
        case rel =>
          refine ⟨j + 1, bs.set (j / 8) (B0 + 2 ^ (j % 8)), by go_num, hlt, hst.drew, by rw [List.length_set]; exact HL.out, set_lt hbs hfit, ?_, (hbel.setCell (Nat.le_refl _) _).drew⟩
          rw [HSE.out, HG.out, HPO.out, HTS.out]; simp
        case measure => simp [intOf] <;> omega
      | false =>
        have hbg : big 8 bs = big 1 ((d01 l).take (j + 1)) := by rw [HG.out, hts]; simp
        have HBG := Lib.hid hbg; clear hts hlim hbg
        go_wp2
        go_roundw
        case rel => exact ⟨j + 1, bs, by go_num, hlt, hrw, HL.out, hbs, HBG.out, hbel⟩
        case measure => simp [intOf] <;> omega
    · have hjl : j = l.length := by omega
      have hbs2 : bs = digs 8 m (big 1 (d01 l)) := digs_of hbs HL.out (by rw [HG.out, hjl, ← d01_len, List.take_length])
      have HB2 := Lib.hid hbs2; clear hbs2
      have hcv := run_string_of_own (P := Try.prog) 34 9 5 Try.underlying34 Try.underlying5 Try.underlying9 (RowN.ownB hrw hbs)
      rw [HL.out] at hcv
      go_wp2
      go_ret
      refine RetB.mk ?_ hbel
      rw [HBM.out, ← HB2.out]; rfl
set_option maxRecDepth 100000 in
set_option maxHeartbeats 2000000 in
theorem rpackb_any (vl : Value) (l : List Bool) (B : Nat) (w : World) (hr : RdV Value.bool w B vl l) (hB : B ≤ w.heap.size) (hl : l.length ≤ 140737488351232) :
    Calls Try.prog 14 #[vl] w (RetB (.string (bmp l)) w) := by
  obtain ⟨A, c, rfl, hc1, hc2, hr'⟩ := hr
  have hr : RdV Value.bool w B (.slice A l.length c) l := ⟨A, c, rfl, hc1, hc2, hr'⟩
  clear hr'
  unfold maxLen at hc2
  have HR := Lib.hid hr; clear hr
  have hm : (l.length + 7) / 8 ≤ 140737488351232 := by omega
  have hbm : bmp l = str ((digs 8 ((l.length + 7) / 8) (big 1 (d01 l))).map UInt8.ofNat) := by unfold bmp packed; rw [d01_len, Nat.mul_one]
  have HBM := Lib.hid hbm; clear hbm
  generalize hM : (l.length + 7) / 8 = m at hm HBM
  have hmI : ((l.length : Int) + 7) / 8 = (m : Int) := by rw [← hM]; omega
  have HM := Lib.hid hM; clear hM
  have hmk := run_makeN (P := Try.prog) Try.underlying34 Try.infoB8 m (by omega) (by unfold maxLen; omega)
  have hrow := RowN.made .u8 5 w w.heap.size m (Nat.le_refl _) (by unfold maxLen; omega)
  have hb0 : Below w.heap.size w (w.alloc (.cells (madeCells #[.int .u8 0] m) 5)) := (Below.refl _ _).alloc (Nat.le_refl _) _
  generalize hW : (w.alloc (.cells (madeCells #[.int .u8 0] m) 5)) = W1 at hrow hb0
  have hmk1 := hmk w
  rw [hW] at hmk1
  clear hmk hW
  go_enter Try.func14, Try.ntmps14
  go_wp2
  clear hmk1 hmI
  go_loopw [13] (fun i wr => ∃ (j : Nat) (bs : List Nat), i = .int .i64 j ∧ j ≤ l.length ∧ RowN .u8 5 wr w.heap.size w.heap.size m bs ∧ bs.length = m ∧ (∀ x ∈ bs, x < 2 ^ 8) ∧
    big 8 bs = big 1 ((d01 l).take j) ∧ Below w.heap.size w wr) (fun i _ => l.length - (intOf i).toNat)
  case atStart => exact ⟨0, _, rfl, Nat.zero_le _, hrow, by simp, zeros_lt 8 m, by rw [big_zeros]; rfl, hb0⟩
  case round =>
    obtain ⟨j, bs, rfl, hj, hrw, hlen, hbs, hbig, hbel⟩ := hrel
    have HL := Lib.hid hlen; have HG := Lib.hid hbig; clear hlen hbig
    by_cases hlt : j < l.length
    · obtain ⟨A', c', hv', _, _, hcell⟩ := HR.out.below (hbel.mono hB)
      cases hv'
      have hlj : l[j]? = some l[j] := List.getElem?_eq_getElem hlt
      obtain ⟨ad, rfl, had, hcj⟩ := hcell j _ hlj
      clear hcell
      have hts := take_step hlj
      have hlim := take_lim hj
      generalize l[j] = b at *
      have HLJ := Lib.hid hlj; clear hlj
      cases b with
      | true =>
        have hin : j / 8 < bs.length := by have := HM.out; rw [HL.out]; omega
        have hat : j = 8 * (j / 8) + j % 8 := by omega
        have hlow : big 8 bs < 2 ^ (8 * (j / 8) + j % 8) := by rw [HG.out, ← hat]; exact hlim
        have hc := hrw.cell _ hin
        have hf := hrw.frozen (j / 8)
        have hBl := digit_lt hbs hlow
        obtain ⟨hor, hfit⟩ := or_bit (Nat.mod_lt j (by decide)) hBl
        have hset := big_set (w := 8) hin (2 ^ (j % 8))
        have hpow : 2 ^ (j % 8) * 2 ^ (8 * (j / 8)) = 2 ^ j := by rw [← Nat.pow_add]; congr 1; omega
        have hst := hrw.store (j / 8) (bs.getD (j / 8) 0 + 2 ^ (j % 8))
        rw [← hor] at hst
        have hin2 : j / 8 < m := by rw [← HL.out]; exact hin
        generalize bs.getD (j / 8) 0 = B0 at *
        have HSE := Lib.hid hset; have HPO := Lib.hid hpow; have HAT := Lib.hid hat; have HTS := Lib.hid hts; have HO := Lib.hid hor
        clear hset hpow hat hts hlow hBl hor
        go_wp2
        clear hc hf
        go_roundw
        case rel =>
          refine ⟨j + 1, bs.set (j / 8) (B0 + 2 ^ (j % 8)), by go_num, hlt, hst, by rw [List.length_set]; exact HL.out, set_lt hbs hfit, ?_, hbel.setCell (Nat.le_refl _) _⟩
          rw [HSE.out, HG.out, HPO.out, HTS.out]; simp
        case measure => simp [intOf] <;> omega
      | false =>
        have hbg : big 8 bs = big 1 ((d01 l).take (j + 1)) := by rw [HG.out, hts]; simp
        have HBG := Lib.hid hbg; clear hts hlim hbg
        go_wp2
        go_roundw
        case rel => exact ⟨j + 1, bs, by go_num, hlt, hrw, HL.out, hbs, HBG.out, hbel⟩
        case measure => simp [intOf] <;> omega
    · have hjl : j = l.length := by omega
      have hbs2 : bs = digs 8 m (big 1 (d01 l)) := digs_of hbs HL.out (by rw [HG.out, hjl, ← d01_len, List.take_length])
      have HB2 := Lib.hid hbs2; clear hbs2
      have hcv := run_string_of_own (P := Try.prog) 34 9 5 Try.underlying34 Try.underlying5 Try.underlying9 (RowN.ownB hrw hbs)
      rw [HL.out] at hcv
      go_wp2
      go_ret
      refine RetB.mk ?_ hbel
      rw [HBM.out, ← HB2.out]; rfl
end Go.Proofs.Yteodifbbgohkpaa
