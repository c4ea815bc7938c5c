/- The walk over the reference's readBytes. -/
import Derived.Test.YtidlemedkjkmdaaValB
import Derived.Test.YtidlemedkjkmdaaValW6
namespace Go.Proofs.Ytidlemedkjkmdaa
open Go.RowKit Go.VB Go.VL Go.DT Go.DC
theorem below_drewNq {n : Nat} {w w' : World} (h : Below n w w') (k : Nat) : Below n w (w'.drewN k) := by
  induction k generalizing w' with
  | zero => exact h
  | succ k ih => exact (ih h).drew
theorem bN_inn (s : ByteArray) (k : Nat) (h : k < s.size - 1 - 1) : bN (inn s) k = bN s (1 + k) := bN_extract s 1 (s.size - 1) k h
set_option maxRecDepth 100000 in
set_option maxHeartbeats 4000000 in
theorem rBytes_any (s : ByteArray) (W0 : World) (zs : s.size ≤ 140737488351232) : Calls Try.prog 38 #[.string s] W0 (RetB (.tuple #[(.agg #[.bool false, .int .i64 0, .string (BS s)]), .int .i64 (BC s : Nat)]) W0) := by
  have HFORM : ¬ okQ s → Hid (Value.tuple #[(.agg #[.bool false, .int .i64 0, .string (BS s)]), .int .i64 (BC s : Nat)] = .tuple #[(.agg #[.bool false, .int .i64 0, .string ⟨#[]⟩]), .int .i64 2]) := fun h => Lib.hid (by rw [BS_form h, BC_form h]; rfl)
  by_cases h2 : s.size < 2
  · have hno := HFORM fun h => by have := h.1; omega
    generalize Value.tuple #[(.agg #[.bool false, .int .i64 0, .string (BS s)]), .int .i64 (BC s : Nat)] = R at *
    clear HFORM
    go_enter Try.func38, Try.ntmps38
    go_wp2
    refine bodyPost_ret (v := .tuple #[(.agg #[.bool false, .int .i64 0, .string ⟨#[]⟩]), .int .i64 2]) (by simp [results, Try.results38, go_sem]) rfl ?_
    exact RetB.mk (by rw [hno.out]) (by go_grown)
  have hz0 : 0 < s.size := by omega
  have hb0 := get_bN s 0
  have hbn := get_bN s (s.size - 1)
  have hl0 := bN_lt s 0
  have hln := bN_lt s (s.size - 1)
  have hc1 : (s.size : Int) - 1 = ((s.size - 1 : Nat) : Int) := by omega
  have hc2 : s.size - 1 < s.size := by omega
  by_cases h5 : s.size % 2 = 0
  · have hm2 : ((s.size : Int) % 2 != 0) = false := ine_f (by omega)
    have hm3 : (((s.size : Int)).tmod 2 != 0) = false := ine_f (by rw [Int.tmod_eq_emod_of_nonneg (by omega)]; omega)
    by_cases h3 : bN s 0 = 34
    · by_cases h4 : bN s (s.size - 1) = 34
      · obtain ⟨m, hm⟩ : ∃ m, (s.size - 2) / 2 = m := ⟨_, rfl⟩
        have hsm : s.size = 2 * m + 2 := by omega
        have hit : (inn s).size = 2 * m := by unfold inn; rw [size_extract s 1 (s.size - 1) (by omega)]; omega
        have hq : okQ s ↔ allH (inn s) := ⟨fun h => h.2.2.2.2, fun h => ⟨by omega, h5, h3, h4, h⟩⟩
        have hbi := fun k (hk : k < 2 * m) => bN_inn s k (by omega)
        have HR : okQ s → Hid (Value.tuple #[(.agg #[.bool false, .int .i64 0, .string (BS s)]), .int .i64 (BC s : Nat)] = if m ≤ 64 then .tuple #[.agg #[.bool false, .int .i64 0, .string (str (bts (inn s) m))], .int .i64 0] else .tuple #[(.agg #[.bool false, .int .i64 0, .string ⟨#[]⟩]), .int .i64 4]) := fun h => Lib.hid (by
          by_cases hm6 : m ≤ 64
          · rw [if_pos hm6, BS_in h (by omega), BC_in h (by omega), hm]; rfl
          · rw [if_neg hm6, BS_over (by omega), BC_over h (by omega)]; rfl)
        generalize Value.tuple #[(.agg #[.bool false, .int .i64 0, .string (BS s)]), .int .i64 (BC s : Nat)] = R at *
        generalize hI : inn s = t at *
        have HQ := Lib.hid hq; have HBI := Lib.hid hbi; have HSM := Lib.hid hsm; have HIT := Lib.hid hit
        have HGT := Lib.hid (get_bN s)
        have hcs := run_string1 (P := Try.prog) 37 9 5 Try.underlying37 Try.underlying5 Try.underlying9
        have HCS := Lib.hid hcs
        clear hq hbi hsm hit hI hm hcs h2
        go_enter Try.func38, Try.ntmps38
        go_wp2_with fail
        have V0 := Var3.new W0 (.bool false) (.int .i64 0) (.string ⟨#[]⟩) 25
        have B0 := (Below.refl W0.heap.size W0).alloc (Nat.le_refl _) (.cells #[.bool false, .int .i64 0, .string ⟨#[]⟩] 25)
        clear h3 h4 hb0 hbn hl0 hln hc1 hc2 hm2 hm3
        go_loopw [4, 5] (fun x i wr => ∃ j : Nat, x = .string (str (bts t j)) ∧ i = .int .i64 ((2 * j + 1 : Nat) : Int) ∧ j ≤ m ∧ (∀ k, k < 2 * j → hv (bN t k) < 16) ∧ Below W0.heap.size W0 wr ∧ Var3 wr W0.heap.size (.bool false) (.int .i64 0) (.string ⟨#[]⟩)) (fun _ i _ => s.size - (intOf i).toNat)
        case atStart => exact ⟨0, rfl, rfl, Nat.zero_le _, fun k hk => absurd hk (Nat.not_lt_zero _), B0, V0⟩
        case round =>
          obtain ⟨j, rfl, rfl, hj, hall, hbel, V⟩ := hrel
          have HALL := Lib.hid hall
          clear hall V0 B0
          by_cases hlt : j < m
          · have hj1 : 2 * j + 1 < s.size := by have := HSM.out; omega
            have hj2 : 2 * j + 1 + 1 < s.size := by have := HSM.out; omega
            have hg1 := HGT.out (2 * j + 1)
            have hg2 := HGT.out (2 * j + 1 + 1)
            have e1 := HBI.out (2 * j) (by omega)
            have e2 := HBI.out (2 * j + 1) (by omega)
            rw [show 1 + 2 * j = 2 * j + 1 from by omega] at e1
            rw [show 1 + (2 * j + 1) = 2 * j + 1 + 1 from by omega] at e2
            rw [← e1] at hg1
            rw [← e2] at hg2
            have hbs : bts t (j + 1) = bts t j ++ [UInt8.ofNat (16 * hv (bN t (2 * j)) + hv (bN t (2 * j + 1)))] := rfl
            have h256a : bN t (2 * j) < 256 := bN_lt _ _
            have h256b : bN t (2 * j + 1) < 256 := bN_lt _ _
            have H1 := fun w => Lib.hid (rhex_any (bN t (2 * j)) w h256a)
            have H2 := fun w => Lib.hid (rhex_any (bN t (2 * j + 1)) w h256b)
            have hNO := fun (h : ¬ (hv (bN t (2 * j)) < 16 ∧ hv (bN t (2 * j + 1)) < 16)) => HFORM fun ho => h ⟨HQ.out.1 ho (2 * j) (by rw [HIT.out]; omega), HQ.out.1 ho (2 * j + 1) (by rw [HIT.out]; omega)⟩
            have hYES := fun (h1 : hv (bN t (2 * j)) < 16) (h2 : hv (bN t (2 * j + 1)) < 16) => Lib.hid (show ∀ k, k < 2 * (j + 1) → hv (bN t k) < 16 from fun k hk => by
              by_cases hk2 : k < 2 * j
              · exact HALL.out k hk2
              · rcases (by omega : k = 2 * j ∨ k = 2 * j + 1) with rfl | rfl
                · exact h1
                · exact h2)
            have ha16 := hv_le (bN t (2 * j))
            have hb16 := hv_le (bN t (2 * j + 1))
            clear e1 e2
            generalize bN t (2 * j) = c1 at *
            generalize bN t (2 * j + 1) = c2 at *
            generalize hv c1 = a at *
            generalize hv c2 = b at *
            have HBS := Lib.hid hbs
            clear hbs HR
            have hll := bts_len t j
            have HLL := Lib.hid hll
            clear hll
            generalize hJ : 2 * j + 1 = J at *
            have HJ := Lib.hid hJ
            clear hJ
            have HV := Lib.hid V
            have HBEL := Lib.hid hbel
            clear V hbel
            go_wp2_with fail
            go_quiet (first
              | (go_at_call 54; (with_reducible refine quiet6 (H1 _).out))
              | (go_at_call 54; (with_reducible refine quiet6 (H2 _).out)))
            have hbelq : Below wr.heap.size wr (wr.drewN nq) := below_drewNq (Below.refl _ _) nq
            have V := HV.out.step hbelq
            have hbel := HBEL.out.trans ⟨hbelq.os, hbelq.tape, hbelq.output, hbelq.size, fun b hlt => hbelq.block b (Nat.lt_of_lt_of_le hlt HBEL.out.size)⟩
            clear HV HBEL hbelq H1 H2 hg1 hg2
            generalize wr.drewN nq = wq at *
            by_cases h16 : a < 16 ∧ b < 16
            · obtain ⟨ha, hb⟩ := h16
              have hyes := hYES ha hb
              have hadd := run_add_str (P := Try.prog) (bts t j) j (Nat.le_of_eq HLL.out) (by have := HSM.out; omega)
              have hcv := HCS.out wq
              clear hYES hNO
              have HW := Lib.hid (show 16 * UInt8.ofNat a + UInt8.ofNat b = UInt8.ofNat (16 * a + b) from by rw [UInt8.ofNat_add, UInt8.ofNat_mul]; rfl)
              go_wp2
              go_roundw
              case rel => exact ⟨j + 1, by rw [HBS.out, HW.out], by rw [show 2 * (j + 1) + 1 = 2 * j + 1 + 2 from by omega, HJ.out]; go_num, hlt, hyes.out, hbel.alloc hbel.size _, V.step ((Below.refl _ _).alloc (Nat.le_refl _) _)⟩
              case measure => simp [intOf] <;> omega
            · have hno := hNO h16
              clear hYES hNO
              have hab : (((a : Int) ≤ 15 ∧ ¬ (b : Int) ≤ 15) ∨ ¬ (a : Int) ≤ 15) := by omega
              have V' := Var3.set V (.bool false) (.int .i64 0) (.string ⟨#[]⟩)
              have hB' := set3_below hbel (Nat.le_refl W0.heap.size) (.bool false) (.int .i64 0) (.string ⟨#[]⟩)
              obtain ⟨k0, k1, k2, f0, f1, f2⟩ := V
              clear h16
              rcases hab with ⟨ha1, hb1⟩ | ha1
              all_goals
                go_wp2
                generalize ((wq.setCell ⟨W0.heap.size, 0, none⟩ (.bool false)).setCell ⟨W0.heap.size, 1, none⟩ (.int .i64 0)).setCell ⟨W0.heap.size, 2, none⟩ (.string ⟨#[]⟩) = w9 at *
                obtain ⟨m0, m1, m2, _, _, _⟩ := V'
                refine bodyPost_ret (v := .tuple #[(.agg #[.bool false, .int .i64 0, .string ⟨#[]⟩]), .int .i64 2]) (by simp [results, Try.results38, go_sem, m0, m1, m2]) rfl ?_
                exact RetB.mk (by rw [hno.out]) hB'
          · obtain rfl : j = m := by omega
            have hyes := HR (HQ.out.2 fun k hk => HALL.out k (by rw [← HIT.out]; exact hk))
            have hsz : (str (bts t j)).size = j := by rw [str_size, bts_len]
            have hend : ¬ (((2 * j + 1 : Nat) : Int) + 1 < (s.size : Int)) := by have := HSM.out; omega
            have hend2 : decide (((2 * j + 1 : Nat) : Int) + 1 < (s.size : Int)) = false := decide_eq_false hend
            clear HR HQ HBI HCS HALL HGT hend
            generalize str (bts t j) = T at *
            generalize hJ : 2 * j + 1 = J at *
            have hJ2 : J ≤ 140737488351232 := by have := HSM.out; omega
            clear hJ hj hlt
            have hj3 : j ≤ 140737488351232 := by have := HSM.out; omega
            by_cases h64 : j ≤ 64
            · have HY := Lib.hid (hyes.out.trans (if_pos h64))
              have V' := Var3.set V (.bool false) (.int .i64 0) (.string T)
              have hB' := set3_below hbel (Nat.le_refl W0.heap.size) (.bool false) (.int .i64 0) (.string T)
              obtain ⟨k0, k1, k2, f0, f1, f2⟩ := V
              clear hyes
              go_wp2
              generalize ((wr.setCell ⟨W0.heap.size, 0, none⟩ (.bool false)).setCell ⟨W0.heap.size, 1, none⟩ (.int .i64 0)).setCell ⟨W0.heap.size, 2, none⟩ (.string T) = w9 at *
              obtain ⟨m0, m1, m2, _, _, _⟩ := V'
              refine bodyPost_ret (v := .tuple #[.agg #[.bool false, .int .i64 0, .string T], .int .i64 0]) (by simp [results, Try.results38, go_sem, m0, m1, m2]) rfl ?_
              exact RetB.mk (by rw [HY.out]) hB'
            · have HY := Lib.hid (hyes.out.trans (if_neg h64))
              have V' := Var3.set V (.bool false) (.int .i64 0) (.string ⟨#[]⟩)
              have hB' := set3_below hbel (Nat.le_refl W0.heap.size) (.bool false) (.int .i64 0) (.string ⟨#[]⟩)
              obtain ⟨k0, k1, k2, f0, f1, f2⟩ := V
              clear hyes
              go_wp2
              generalize ((wr.setCell ⟨W0.heap.size, 0, none⟩ (.bool false)).setCell ⟨W0.heap.size, 1, none⟩ (.int .i64 0)).setCell ⟨W0.heap.size, 2, none⟩ (.string ⟨#[]⟩) = w9 at *
              obtain ⟨m0, m1, m2, _, _, _⟩ := V'
              refine bodyPost_ret (v := .tuple #[(.agg #[.bool false, .int .i64 0, .string ⟨#[]⟩]), .int .i64 4]) (by simp [results, Try.results38, go_sem, m0, m1, m2]) rfl ?_
              exact RetB.mk (by rw [HY.out]) hB'
      · have hno := HFORM fun h => h4 h.2.2.2.1
        have hd4 : ((bN s (s.size - 1) : Int) != 34) = true := ine_t (by omega)
        generalize Value.tuple #[(.agg #[.bool false, .int .i64 0, .string (BS s)]), .int .i64 (BC s : Nat)] = R at *
        clear HFORM h4
        generalize bN s (s.size - 1) = V at *
        generalize bN s 0 = V1 at *
        go_enter Try.func38, Try.ntmps38
        go_wp2
        refine bodyPost_ret (v := .tuple #[(.agg #[.bool false, .int .i64 0, .string ⟨#[]⟩]), .int .i64 2]) (by simp [results, Try.results38, go_sem]) rfl ?_
        exact RetB.mk (by rw [hno.out]) (by go_grown)
    · have hno := HFORM fun h => h3 h.2.2.1
      have hd4 : ((bN s 0 : Int) != 34) = true := ine_t (by omega)
      generalize Value.tuple #[(.agg #[.bool false, .int .i64 0, .string (BS s)]), .int .i64 (BC s : Nat)] = R at *
      clear HFORM h3 hbn hln
      generalize bN s 0 = V1 at *
      go_enter Try.func38, Try.ntmps38
      go_wp2
      refine bodyPost_ret (v := .tuple #[(.agg #[.bool false, .int .i64 0, .string ⟨#[]⟩]), .int .i64 2]) (by simp [results, Try.results38, go_sem]) rfl ?_
      exact RetB.mk (by rw [hno.out]) (by go_grown)
  · have hno := HFORM fun h => h5 h.2.1
    have hm2 : ((s.size : Int) % 2 != 0) = true := ine_t (by omega)
    have hm3 : (((s.size : Int)).tmod 2 != 0) = true := ine_t (by rw [Int.tmod_eq_emod_of_nonneg (by omega)]; omega)
    generalize Value.tuple #[(.agg #[.bool false, .int .i64 0, .string (BS s)]), .int .i64 (BC s : Nat)] = R at *
    clear HFORM h5 hbn hln hb0 hl0
    go_enter Try.func38, Try.ntmps38
    go_wp2
    refine bodyPost_ret (v := .tuple #[(.agg #[.bool false, .int .i64 0, .string ⟨#[]⟩]), .int .i64 2]) (by simp [results, Try.results38, go_sem]) rfl ?_
    exact RetB.mk (by rw [hno.out]) (by go_grown)
end Go.Proofs.Ytidlemedkjkmdaa
