/- The walk over package decimal's text of a number. -/
import Derived.Test.YtidlemedkjkmdaaDoorDecW3
namespace Go.DC
open Go.VB Go.DT Go.RowKit
theorem zeros21 : List.replicate 21 0 = List.replicate (21 - (pt 0 0 0).length) 0 ++ pt 0 0 0 := rfl
theorem row_len (l : List Nat) (h : l.length ≤ 21) : (List.replicate (21 - l.length) 0 ++ l).length = 21 := by rw [List.length_append, List.length_replicate]; omega
theorem pt_size {m k j : Nat} : (pt m k j).length ≤ j + 1 := by rw [pt_len]; split <;> omega
theorem pt_size_low {m k j : Nat} (h : j ≤ k) : (pt m k j).length = j := by rw [pt_len, if_pos (.inl h)]
/-- The row that holds l at its end. -/
def row21 (l : List Nat) : List Nat := List.replicate (21 - l.length) 0 ++ l
theorem row21_len {l : List Nat} (h : l.length ≤ 21) : (row21 l).length = 21 := row_len l h
theorem row21_put (l : List Nat) (q x : Nat) (h : l.length + q + 1 = 21) : (row21 l).set q x = row21 (x :: l) := by
  have := row_put l 21 x (by omega)
  rw [show 21 - 1 - l.length = q from by omega] at this
  exact this
theorem row21_drop (l : List Nat) (q : Nat) (h : l.length + q = 21) : (row21 l).drop q = l := by
  unfold row21
  rw [show 21 - l.length = q from by omega]
  exact List.drop_left' (List.length_replicate ..)
end Go.DC
namespace Go.VB
open Go.RowKit
open Go.DC Go.DT in
/-- string(row[q:]) of a row whose end is known. -/
theorem run_string_row21 {P : Program} {w : World} (src dst e : TypeId) {base g q : Nat} {l : List Nat}
    (hs : P.underlying src = some (.slice e)) (he : P.underlying e = some (.int .u8)) (hd : P.underlying dst = some .string) (h : RowN .u8 e w base g 21 (row21 l)) (hl : ∀ x ∈ l, x < 256) (hq : l.length + q = 21) :
    (convert src dst (.slice (some ⟨g, q, none⟩) (21 - q) (21 - q))).run P w = .ok (.string (str (by8 l))) w := by
  refine run_string_of_row w src dst e _ _ _ (by8 l) hs he hd (by rw [by8_len]; omega) ?_
  have hv : (by8 l).map (fun b => Value.int .u8 (b.toNat : Int)) = nvs .u8 l := by
    unfold by8
    rw [List.map_map]
    refine List.map_congr_left fun x hx => ?_
    simp only [Function.comp]
    rw [UInt8.toNat_ofNat', Nat.mod_eq_of_lt (hl x hx)]
  rw [hv]
  have := run_loadCells_list (P := P) (w := w) ⟨g, q, none⟩ (nvs .u8 l) (by
    intro j v hj
    have hjl : j < l.length := by
      rcases Nat.lt_or_ge j l.length with h1 | h1
      · exact h1
      · rw [List.getElem?_eq_none (by rw [nvs_len]; exact h1)] at hj; cases hj
    rw [nvs_get .u8 l j hjl] at hj
    have hc := h.cell (q + j) (by rw [row21_len (by omega)]; omega)
    have hd := congrArg (fun r => r.getD j 0) (row21_drop l q hq)
    simp only [List.getD_eq_getElem?_getD, List.getElem?_drop] at hd
    rw [List.getD_eq_getElem?_getD, hd, ← List.getD_eq_getElem?_getD] at hc
    rw [show (⟨g, q, none⟩ : Addr).add j = ⟨g, q + j, none⟩ from by simp [Addr.add], hc]
    exact hj)
  rw [nvs_len, show l.length = 21 - q from by omega] at this
  exact this
end Go.VB
namespace Go.Proofs.YtidlemedkjkmdaaDoor
open Go.RowKit Go.VB Go.DT Go.DC
set_option maxRecDepth 100000 in
set_option maxHeartbeats 4000000 in
theorem format_any (n k : Int) (w : World) : Calls Tryd.prog 18 #[.int .i64 n, .int .i64 k] w (RetB (.tuple #[.string (FN n k), .int .i64 (FC n k : Nat)]) w) := by
  have h1 := num_any n w
  have h2 := scl_any k w
  by_cases hok : okN n ∧ okS k
  · rw [FN_in hok, FC_in hok]
    obtain ⟨o1, o2⟩ := hok
    rw [decide_eq_true o1] at h1
    rw [decide_eq_true o2] at h2
    have H1 := Lib.hid h1; have H2 := Lib.hid h2; clear h1 h2
    unfold okS at o2
    obtain ⟨k, rfl⟩ := Int.eq_ofNat_of_zero_le o2.1
    have hk : k ≤ 18 := by omega
    clear o2
    rw [Int.toNat_natCast]
    obtain ⟨m, hm, hab, hcase⟩ := okN_cases o1
    clear o1
    have hlm := len_max hm
    have hft : ft n k = sign n ++ (whole m k ++ tail m k) := by unfold ft; rw [hab]
    have HFT := Lib.hid hft; clear hft hab
    have hmk := run_makeN (P := Tryd.prog) Tryd.underlying59 Tryd.inf8 21 (by decide) (by decide) w
    rw [show ((21 : Nat) : Int) = 21 from rfl] at hmk
    have hrow := RowN.made .u8 5 w w.heap.size 21 (Nat.le_refl _) (by decide)
    have hb0 : Below w.heap.size w (w.alloc (.cells (madeCells #[.int .u8 0] 21) 5)) := (Below.refl _ _).alloc (Nat.le_refl _) _
    generalize hW : (w.alloc (.cells (madeCells #[.int .u8 0] 21) 5)) = W1 at hrow hb0 hmk
    clear hW
    rcases hcase with rfl | ⟨rfl, hm1⟩
    · rw [show sign (m:Int) = [] from by first | exact sign_pos m | exact sign_neg hm1] at HFT
      have hdn : decide ((m:Int) < 0) = false := by simp <;> omega
      go_enter Tryd.func18, Tryd.ntmps18
      go_wp2_with (first
        | (go_at_call 37; refine H1.out.mono ?_; rintro e w' ⟨rfl, rfl⟩)
        | (go_at_call 38; refine H2.out.mono ?_; rintro e w' ⟨rfl, rfl⟩))
      clear hmk
      go_loopw [6, 8, 9] (fun r st d wr => ∃ (j q : Nat), r = .int .i64 (m / 10 ^ j : Nat) ∧ st = .int .i64 (q : Int) ∧ d = .int .i64 (j : Int) ∧ j ≤ max (k + 1) (len m) ∧ (pt m k j).length + q = 21 ∧ RowN .u8 5 wr w.heap.size w.heap.size 21 (row21 (pt m k j)) ∧ Below w.heap.size w wr) (fun _ _ d _ => 20 - (intOf d).toNat)
      case atStart => exact ⟨0, 21, by rw [Nat.pow_zero, Nat.div_one], rfl, rfl, Nat.zero_le _, by rw [pt_zero]; rfl, by rw [pt_zero]; exact hrow, hb0⟩
      case round =>
        obtain ⟨j, q, rfl, rfl, rfl, hj, hq, hrw, hbel⟩ := hrel
        have hj19 : j ≤ 19 := by omega
        have hst := div_step m j
        have hpos := div_pos_iff (v := m) (j := j)
        have hxl : m / 10 ^ j ≤ m := Nat.div_le_self _ _
        have hlo := pt_low (m := m) (k := k) (j := j)
        have hat := pt_at (m := m) (k := k)
        have hhi := pt_high (m := m) (k := k) (j := j)
        have hdo := pt_done (m := m) (k := k) (j := j)
        have hps := pt_size (m := m) (k := k) (j := j)
        have hpl := pt_size_low (m := m) (k := k) (j := j)
        have hlen := row21_len (l := pt m k j) (by omega)
        have HST := Lib.hid hst; have HP := Lib.hid hpos; have HLO := Lib.hid hlo; have HAT := Lib.hid hat; have HHI := Lib.hid hhi; have HL := Lib.hid hlen; have HDO := Lib.hid hdo; have HPL := Lib.hid hpl; have HJ := Lib.hid hj; clear hst hpos hlo hat hhi hlen hdo hpl hj
        by_cases hjk : j < k
        · have hL := HPL.out (Nat.le_of_lt hjk)
          obtain ⟨q, rfl⟩ : ∃ q', q = q' + 1 := ⟨q - 1, by omega⟩
          have hstore := hrw.store q (48 + m / 10 ^ j % 10)
          rw [row21_put _ q _ (by omega), ← HLO.out hjk] at hstore
          have hc := hrw.cell q (by rw [HL.out]; omega)
          have hf := hrw.frozen q
          generalize (row21 (pt m k j)).getD q 0 = V at hc
          have hq2 : q ≤ 20 := by omega
          have HQ := Lib.hid (show (pt m k (j + 1)).length + q = 21 by rw [HLO.out hjk, List.length_cons]; omega); clear hq hps hL
          generalize m / 10 ^ j = x at *
          go_wp2
          exact ⟨⟨j + 1, q, by rw [HST.out]; go_num, by go_num, by go_num, by omega, HQ.out, hstore, hbel.setCell (Nat.le_refl _) _⟩, by simp [intOf] <;> omega⟩
        by_cases hje : j = k
        · subst hje
          by_cases hj0 : 0 < j
          · have hL := HPL.out (Nat.le_refl _)
            obtain ⟨q, rfl⟩ : ∃ q', q = q' + 2 := ⟨q - 2, by omega⟩
            have hst1 : RowN .u8 5 (wr.setCell ⟨w.heap.size, q + 1, none⟩ (.int .u8 46)) w.heap.size w.heap.size 21 _ := hrw.store (q + 1) 46
            rw [row21_put _ (q + 1) _ (by omega)] at hst1
            have hc := hrw.cell (q + 1) (by rw [HL.out]; omega)
            have hf := hrw.frozen (q + 1)
            have hlen2 := row21_len (l := 46 :: pt m j j) (by rw [List.length_cons]; omega)
            have hc2 := hst1.cell q (by rw [hlen2]; omega)
            have hf2 := hst1.frozen q
            have hst2 := hst1.store q (48 + m / 10 ^ j % 10)
            rw [row21_put _ q _ (by rw [List.length_cons]; omega), ← HAT.out hj0] at hst2
            generalize (row21 (pt m j j)).getD (q + 1) 0 = V at hc
            generalize (row21 (46 :: pt m j j)).getD q 0 = V2 at hc2
            have hq2 : q ≤ 19 := by omega
            have HQ := Lib.hid (show (pt m j (j + 1)).length + q = 21 by rw [HAT.out hj0, List.length_cons, List.length_cons]; omega)
            have HL2 := Lib.hid hlen2
            clear hq hps hL hlen2
            generalize m / 10 ^ j = x at *
            go_wp2
            exact ⟨⟨j + 1, q, by rw [HST.out]; go_num, by go_num, by go_num, by omega, HQ.out, hst2, (hbel.setCell (Nat.le_refl _) _).setCell (Nat.le_refl _) _⟩, by simp [intOf] <;> omega⟩
          · have hL := HPL.out (Nat.le_refl _)
            obtain ⟨q, rfl⟩ : ∃ q', q = q' + 1 := ⟨q - 1, by omega⟩
            have hh := HHI.out (.inr ⟨rfl, by omega⟩)
            have hstore := hrw.store q (48 + m / 10 ^ j % 10)
            rw [row21_put _ q _ (by omega), ← hh] at hstore
            have hc := hrw.cell q (by rw [HL.out]; omega)
            have hf := hrw.frozen q
            generalize (row21 (pt m j j)).getD q 0 = V at hc
            have hq2 : q ≤ 20 := by omega
            have HQ := Lib.hid (show (pt m j (j + 1)).length + q = 21 by rw [hh, List.length_cons]; omega); clear hq hps hL hh
            generalize m / 10 ^ j = x at *
            go_wp2
            exact ⟨⟨j + 1, q, by rw [HST.out]; go_num, by go_num, by go_num, by omega, HQ.out, hstore, hbel.setCell (Nat.le_refl _) _⟩, by simp [intOf] <;> omega⟩
        · have hkj : k < j := by omega
          by_cases hx : 0 < m / 10 ^ j
          · have hjl := HP.out.1 hx
            obtain ⟨q, rfl⟩ : ∃ q', q = q' + 1 := ⟨q - 1, by omega⟩
            have hh := HHI.out (.inl hkj)
            have hstore := hrw.store q (48 + m / 10 ^ j % 10)
            rw [row21_put _ q _ (by omega), ← hh] at hstore
            have hc := hrw.cell q (by rw [HL.out]; omega)
            have hf := hrw.frozen q
            generalize (row21 (pt m k j)).getD q 0 = V at hc
            have hq2 : q ≤ 20 := by omega
            have HQ := Lib.hid (show (pt m k (j + 1)).length + q = 21 by rw [hh, List.length_cons]; omega); clear hq hps hh
            generalize m / 10 ^ j = x at *
            go_wp2
            go_roundw
            case rel => exact ⟨j + 1, q, by rw [HST.out]; go_num, by go_num, by go_num, by omega, HQ.out, hstore, hbel.setCell (Nat.le_refl _) _⟩
            case measure => simp [intOf] <;> omega
          · have hjl : ¬ j < len m := fun h => hx (HP.out.2 h)
            have hpt := HDO.out hkj (by omega) (by have := HJ.out; omega)
            rw [hpt] at hrw hq
            clear HLO HAT HHI HDO HPL hps hpt HL
            generalize m / 10 ^ j = x at *
            have hft := HFT.out
            simp only [List.nil_append] at hft
            have hcv := run_string_row21 (P := Tryd.prog) 59 9 5 Tryd.underlying59 Tryd.underlying5 Tryd.underlying9 hrw (fun y hy => ft_lt (m : Int) k y (by rw [hft]; exact hy)) hq
            have hq21 : q ≤ 20 := by
              have := (wn_bd (k := k) hm).1
              rw [List.length_append, whole_len] at hq
              omega
            rw [← hft] at hcv
            clear hq hft
            go_wp2
            go_ret2
            exact RetB.mk rfl hbel
    · rw [show sign (-(m:Int)) = [45] from by first | exact sign_pos m | exact sign_neg hm1] at HFT
      have hdn : decide (0 < m) = true := decide_eq_true hm1
      go_enter Tryd.func18, Tryd.ntmps18
      go_wp2_with (first
        | (go_at_call 37; refine H1.out.mono ?_; rintro e w' ⟨rfl, rfl⟩)
        | (go_at_call 38; refine H2.out.mono ?_; rintro e w' ⟨rfl, rfl⟩))
      clear hmk
      go_loopw [6, 8, 9] (fun r st d wr => ∃ (j q : Nat), r = .int .i64 (m / 10 ^ j : Nat) ∧ st = .int .i64 (q : Int) ∧ d = .int .i64 (j : Int) ∧ j ≤ max (k + 1) (len m) ∧ (pt m k j).length + q = 21 ∧ RowN .u8 5 wr w.heap.size w.heap.size 21 (row21 (pt m k j)) ∧ Below w.heap.size w wr) (fun _ _ d _ => 20 - (intOf d).toNat)
      case atStart => exact ⟨0, 21, by rw [Nat.pow_zero, Nat.div_one], rfl, rfl, Nat.zero_le _, by rw [pt_zero]; rfl, by rw [pt_zero]; exact hrow, hb0⟩
      case round =>
        obtain ⟨j, q, rfl, rfl, rfl, hj, hq, hrw, hbel⟩ := hrel
        have hj19 : j ≤ 19 := by omega
        have hst := div_step m j
        have hpos := div_pos_iff (v := m) (j := j)
        have hxl : m / 10 ^ j ≤ m := Nat.div_le_self _ _
        have hlo := pt_low (m := m) (k := k) (j := j)
        have hat := pt_at (m := m) (k := k)
        have hhi := pt_high (m := m) (k := k) (j := j)
        have hdo := pt_done (m := m) (k := k) (j := j)
        have hps := pt_size (m := m) (k := k) (j := j)
        have hpl := pt_size_low (m := m) (k := k) (j := j)
        have hlen := row21_len (l := pt m k j) (by omega)
        have HST := Lib.hid hst; have HP := Lib.hid hpos; have HLO := Lib.hid hlo; have HAT := Lib.hid hat; have HHI := Lib.hid hhi; have HL := Lib.hid hlen; have HDO := Lib.hid hdo; have HPL := Lib.hid hpl; have HJ := Lib.hid hj; clear hst hpos hlo hat hhi hlen hdo hpl hj
        by_cases hjk : j < k
        · have hL := HPL.out (Nat.le_of_lt hjk)
          obtain ⟨q, rfl⟩ : ∃ q', q = q' + 1 := ⟨q - 1, by omega⟩
          have hstore := hrw.store q (48 + m / 10 ^ j % 10)
          rw [row21_put _ q _ (by omega), ← HLO.out hjk] at hstore
          have hc := hrw.cell q (by rw [HL.out]; omega)
          have hf := hrw.frozen q
          generalize (row21 (pt m k j)).getD q 0 = V at hc
          have hq2 : q ≤ 20 := by omega
          have HQ := Lib.hid (show (pt m k (j + 1)).length + q = 21 by rw [HLO.out hjk, List.length_cons]; omega); clear hq hps hL
          generalize m / 10 ^ j = x at *
          go_wp2
          exact ⟨⟨j + 1, q, by rw [HST.out]; go_num, by go_num, by go_num, by omega, HQ.out, hstore, hbel.setCell (Nat.le_refl _) _⟩, by simp [intOf] <;> omega⟩
        by_cases hje : j = k
        · subst hje
          by_cases hj0 : 0 < j
          · have hL := HPL.out (Nat.le_refl _)
            obtain ⟨q, rfl⟩ : ∃ q', q = q' + 2 := ⟨q - 2, by omega⟩
            have hst1 : RowN .u8 5 (wr.setCell ⟨w.heap.size, q + 1, none⟩ (.int .u8 46)) w.heap.size w.heap.size 21 _ := hrw.store (q + 1) 46
            rw [row21_put _ (q + 1) _ (by omega)] at hst1
            have hc := hrw.cell (q + 1) (by rw [HL.out]; omega)
            have hf := hrw.frozen (q + 1)
            have hlen2 := row21_len (l := 46 :: pt m j j) (by rw [List.length_cons]; omega)
            have hc2 := hst1.cell q (by rw [hlen2]; omega)
            have hf2 := hst1.frozen q
            have hst2 := hst1.store q (48 + m / 10 ^ j % 10)
            rw [row21_put _ q _ (by rw [List.length_cons]; omega), ← HAT.out hj0] at hst2
            generalize (row21 (pt m j j)).getD (q + 1) 0 = V at hc
            generalize (row21 (46 :: pt m j j)).getD q 0 = V2 at hc2
            have hq2 : q ≤ 19 := by omega
            have HQ := Lib.hid (show (pt m j (j + 1)).length + q = 21 by rw [HAT.out hj0, List.length_cons, List.length_cons]; omega)
            have HL2 := Lib.hid hlen2
            clear hq hps hL hlen2
            generalize m / 10 ^ j = x at *
            go_wp2
            exact ⟨⟨j + 1, q, by rw [HST.out]; go_num, by go_num, by go_num, by omega, HQ.out, hst2, (hbel.setCell (Nat.le_refl _) _).setCell (Nat.le_refl _) _⟩, by simp [intOf] <;> omega⟩
          · have hL := HPL.out (Nat.le_refl _)
            obtain ⟨q, rfl⟩ : ∃ q', q = q' + 1 := ⟨q - 1, by omega⟩
            have hh := HHI.out (.inr ⟨rfl, by omega⟩)
            have hstore := hrw.store q (48 + m / 10 ^ j % 10)
            rw [row21_put _ q _ (by omega), ← hh] at hstore
            have hc := hrw.cell q (by rw [HL.out]; omega)
            have hf := hrw.frozen q
            generalize (row21 (pt m j j)).getD q 0 = V at hc
            have hq2 : q ≤ 20 := by omega
            have HQ := Lib.hid (show (pt m j (j + 1)).length + q = 21 by rw [hh, List.length_cons]; omega); clear hq hps hL hh
            generalize m / 10 ^ j = x at *
            go_wp2
            exact ⟨⟨j + 1, q, by rw [HST.out]; go_num, by go_num, by go_num, by omega, HQ.out, hstore, hbel.setCell (Nat.le_refl _) _⟩, by simp [intOf] <;> omega⟩
        · have hkj : k < j := by omega
          by_cases hx : 0 < m / 10 ^ j
          · have hjl := HP.out.1 hx
            obtain ⟨q, rfl⟩ : ∃ q', q = q' + 1 := ⟨q - 1, by omega⟩
            have hh := HHI.out (.inl hkj)
            have hstore := hrw.store q (48 + m / 10 ^ j % 10)
            rw [row21_put _ q _ (by omega), ← hh] at hstore
            have hc := hrw.cell q (by rw [HL.out]; omega)
            have hf := hrw.frozen q
            generalize (row21 (pt m k j)).getD q 0 = V at hc
            have hq2 : q ≤ 20 := by omega
            have HQ := Lib.hid (show (pt m k (j + 1)).length + q = 21 by rw [hh, List.length_cons]; omega); clear hq hps hh
            generalize m / 10 ^ j = x at *
            go_wp2
            go_roundw
            case rel => exact ⟨j + 1, q, by rw [HST.out]; go_num, by go_num, by go_num, by omega, HQ.out, hstore, hbel.setCell (Nat.le_refl _) _⟩
            case measure => simp [intOf] <;> omega
          · have hjl : ¬ j < len m := fun h => hx (HP.out.2 h)
            have hpt := HDO.out hkj (by omega) (by have := HJ.out; omega)
            rw [hpt] at hrw hq
            clear HLO HAT HHI HDO HPL hps hpt HL
            generalize m / 10 ^ j = x at *
            have hft := HFT.out
            simp only [List.singleton_append] at hft
            have hq1 : (whole m k ++ tail m k).length + 1 ≤ 21 := by
              have h1 := ft_len (n := -(m : Int)) (k := k) (by omega) hk
              rw [hft, List.length_cons] at h1
              exact h1
            obtain ⟨q, rfl⟩ : ∃ q', q = q' + 1 := ⟨q - 1, by omega⟩
            have hst1 : RowN .u8 5 (wr.setCell ⟨w.heap.size, q, none⟩ (.int .u8 45)) w.heap.size w.heap.size 21 _ := hrw.store q 45
            rw [row21_put _ q _ (by omega)] at hst1
            have hc := hrw.cell q (by rw [row21_len (by omega)]; omega)
            have hf := hrw.frozen q
            generalize (row21 (whole m k ++ tail m k)).getD q 0 = V at hc
            have hcv := run_string_row21 (P := Tryd.prog) 59 9 5 Tryd.underlying59 Tryd.underlying5 Tryd.underlying9 (q := q) hst1 (fun y hy => ft_lt (-(m : Int)) k y (by rw [hft]; exact hy)) (by rw [List.length_cons]; omega)
            have hq21 : q ≤ 20 := by omega
            rw [← hft] at hcv
            clear hq hq1 hft
            go_wp2
            go_ret2
            exact RetB.mk rfl (hbel.setCell (Nat.le_refl _) _)
  · rw [FN_out hok, FC_out hok]
    by_cases hn : okN n
    · have hs : ¬ okS k := fun h => hok ⟨hn, h⟩
      rw [decide_eq_true hn] at h1
      rw [decide_eq_false hs] at h2
      have H1 := Lib.hid h1; have H2 := Lib.hid h2; clear h1 h2 hok hn hs
      go_enter Tryd.func18, Tryd.ntmps18
      go_wp2_with (first
        | (go_at_call 37; refine H1.out.mono ?_; rintro e w' ⟨rfl, rfl⟩)
        | (go_at_call 38; refine H2.out.mono ?_; rintro e w' ⟨rfl, rfl⟩))
      go_ret2
      exact RetB.mk rfl (Below.refl _ _)
    · rw [decide_eq_false hn] at h1
      have H1 := Lib.hid h1; clear h1 h2 hok hn
      go_enter Tryd.func18, Tryd.ntmps18
      go_wp2_with (go_at_call 37; refine H1.out.mono ?_; rintro e w' ⟨rfl, rfl⟩)
      go_ret2
      exact RetB.mk rfl (Below.refl _ _)
end Go.Proofs.YtidlemedkjkmdaaDoor
