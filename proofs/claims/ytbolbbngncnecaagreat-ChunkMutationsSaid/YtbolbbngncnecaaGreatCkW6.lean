/- The walks over package chunk: shortestPayload. -/
import Derived.Test.YtbolbbngncnecaaGreatCkW5
import Derived.Deep.CutRange
import Derived.Deep.RegionWith
namespace Go.CK
open Go.RowKit Go.VB Go.VS
/-- It returns v and leaves the world W. -/
def RetAt (v : Value) (W : World) : Ending → World → Prop := fun e w' => e = .returned v ∧ w' = W
theorem RetAt.mk {x v : Value} {W w : World} (h : x = v) (hw : w = W) : RetAt v W (.returned x) w := ⟨by rw [h], hw⟩
theorem RdL.upto {w w' : World} {v : Value} {l : List Vl} (h : RdL w w.heap.size v l) (hb : Below w.heap.size w w') : RdL w' w'.heap.size v l := h.step hb
end Go.CK
namespace Go.Proofs.YtbolbbngncnecaaGreat
open Go.RowKit Go.VB Go.VarM Go.BP Go.RL Go.VS Go.VL Go.DI Go.CK Go.NU
set_option maxRecDepth 100000 in
set_option maxHeartbeats 400000 in
theorem codecs3_at (w : World) : Calls Tryz.prog 47 #[.int .i64 3] w (RetAt (.slice (some ⟨w.heap.size, 0, none⟩) 2 2) (w.alloc (.cells #[.int .i64 1,.int .i64 3] 3))) := by
  go_enter Tryz.func47, Tryz.ntmps47
  go_wp2
  go_ret
  exact RetAt.mk rfl rfl
set_option maxRecDepth 100000 in
set_option maxHeartbeats 400000 in
theorem codecs1_at (w : World) : Calls Tryz.prog 47 #[.int .i64 1] w (RetAt (.slice (some ⟨w.heap.size, 0, none⟩) 3 3) (w.alloc (.cells #[.int .i64 1,.int .i64 2,.int .i64 4] 3))) := by
  go_enter Tryz.func47, Tryz.ntmps47
  go_wp2
  go_ret
  exact RetAt.mk rfl rfl
set_option maxRecDepth 100000 in
set_option maxHeartbeats 400000 in
theorem codecs2_at (w : World) : Calls Tryz.prog 47 #[.int .i64 2] w (RetAt (.slice (some ⟨w.heap.size, 0, none⟩) 3 3) (w.alloc (.cells #[.int .i64 1,.int .i64 2,.int .i64 4] 3))) := by
  go_enter Tryz.func47, Tryz.ntmps47
  go_wp2
  go_ret
  exact RetAt.mk rfl rfl
set_option maxRecDepth 100000 in
set_option maxHeartbeats 400000 in
theorem codecs4_at (w : World) : Calls Tryz.prog 47 #[.int .i64 4] w (RetAt (.slice (some ⟨w.heap.size, 0, none⟩) 3 3) (w.alloc (.cells #[.int .i64 1,.int .i64 2,.int .i64 4] 3))) := by
  go_enter Tryz.func47, Tryz.ntmps47
  go_wp2
  go_ret
  exact RetAt.mk rfl rfl
set_option maxRecDepth 100000 in
set_option maxHeartbeats 400000 in
theorem codecs5_at (w : World) : Calls Tryz.prog 47 #[.int .i64 5] w (RetAt (.slice (some ⟨w.heap.size, 0, none⟩) 3 3) (w.alloc (.cells #[.int .i64 1,.int .i64 2,.int .i64 4] 3))) := by
  go_enter Tryz.func47, Tryz.ntmps47
  go_wp2
  go_ret
  exact RetAt.mk rfl rfl
theorem codecsN_at {typ : Int} (hT : okT typ = true) (h3 : typ ≠ 3) (w : World) : Calls Tryz.prog 47 #[.int .i64 typ] w (RetAt (.slice (some ⟨w.heap.size, 0, none⟩) 3 3) (w.alloc (.cells #[.int .i64 1, .int .i64 2, .int .i64 4] 3))) := by
  rcases Go.CK.okT_five hT with rfl | rfl | rfl | rfl | rfl
  · exact codecs1_at w
  · exact codecs2_at w
  · exact absurd rfl h3
  · exact codecs4_at w
  · exact codecs5_at w
set_option maxRecDepth 100000 in
set_option maxHeartbeats 1000000 in
theorem short_3 (v : Value) (l : List Vl) (W : World) (hr : RdL W W.heap.size v l) (hl : l.length ≤ 4096) (hv : ∀ x ∈ l, Vok x) :
    Calls Tryz.prog 30 #[.int .i64 3, v] W (RetB (.tuple #[.int .i64 (bestK 3 l : Nat), .string (str (payB 3 (bestK 3 l : Nat) l))]) W) := by
  obtain ⟨A, c, _, rfl, rfl, hc1, hc2⟩ := hr.bds
  have HB1 := Lib.hid ((Below.refl W.heap.size W).alloc (Nat.le_refl _) (.cells #[.int .i64 1, .int .i64 3] 3))
  have HS1 := Lib.hid (show (W.alloc (.cells #[.int .i64 1, .int .i64 3] 3)).heap.size = W.heap.size + 1 from by simp)
  have HR1 := Lib.hid (hr.step HB1.out)
  have HC := Lib.hid (codecs3_at W)
  have HCELL := Lib.hid (show ∀ w', Below (W.alloc (.cells #[.int .i64 1, .int .i64 3] 3)).heap.size (W.alloc (.cells #[.int .i64 1, .int .i64 3] 3)) w' → w'.cell? ⟨W.heap.size, 0, none⟩ = some (.int .i64 1) ∧ w'.cell? ⟨W.heap.size, 1, none⟩ = some (.int .i64 3) from fun w' hb => ⟨(hb.cell (p := ⟨W.heap.size, 0, none⟩) (by rw [HS1.out]; exact Nat.lt_succ_self _)).trans (by simp), (hb.cell (p := ⟨W.heap.size, 1, none⟩) (by rw [HS1.out]; exact Nat.lt_succ_self _)).trans (by simp)⟩)
  obtain ⟨PP, hPP⟩ : ∃ PP : Nat → ByteArray, ∀ b : Nat, PP b = str (payB 3 (b : Int) l) := ⟨_, fun _ => rfl⟩
  have HZ := Lib.hid (fun b : Nat => (congrArg ByteArray.size (hPP b)).trans (str_size _))
  have HPP := Lib.hid hPP
  have HP1 := Lib.hid (fun (w : World) (h : RdL w w.heap.size (.slice A l.length c) l) => putPay_1 3 (.slice A l.length c) l w h hl hv)
  rw [show payB 3 1 l = payB 3 ((1 : Nat) : Int) l from rfl, ← hPP 1] at HP1
  have HP3 := Lib.hid (fun (w : World) (h : RdL w w.heap.size (.slice A l.length c) l) => putPay_3 3 (.slice A l.length c) l w h hl hv)
  rw [show payB 3 3 l = payB 3 ((3 : Nat) : Int) l from rfl, ← hPP 3] at HP3
  have HF := Lib.hid (show (bstep 3 l 1 3) = bestK 3 l from best_3 l)
  rw [← hPP]
  clear hr hv hPP
  go_enter Tryz.func30, Tryz.ntmps30
  go_wp2_with fail
  (with_reducible refine HC.out.mono ?_); rintro e w1 ⟨rfl, rfl⟩
  go_upto_region 2 with fail
  go_cut [7, 8] from 14 to 22 (fun b s w' => b = .int .i64 1 ∧ s = .string (PP 1) ∧ Below (W.alloc (.cells #[.int .i64 1, .int .i64 3] 3)).heap.size (W.alloc (.cells #[.int .i64 1, .int .i64 3] 3)) w')
  case first =>
    obtain ⟨c1, c3⟩ := HCELL.out (W.alloc (.cells #[.int .i64 1, .int .i64 3] 3)) (Below.refl _ _)
    have HPW := Lib.hid (show ∀ w', Below (W.alloc (.cells #[.int .i64 1, .int .i64 3] 3)).heap.size (W.alloc (.cells #[.int .i64 1, .int .i64 3] 3)) w' → Hid (Calls Tryz.prog 49 #[.int .i64 3, .int .i64 1, .slice A l.length c] w' (RetB (.string (PP 1)) w')) from fun w' hb => Lib.hid (HP1.out w' (HR1.out.step hb)))
    go_region_with (first | (go_at_call 49; (with_reducible refine (HPW.out _ ?_).out.mono ?_); (first | exact (Below.refl _ _) | exact (Below.refl _ _).drew | go_grown); rintro e w' ⟨rfl, hb⟩; obtain ⟨d1, d3⟩ := HCELL.out _ (bel_trans (by go_grown) hb)))
    all_goals
      go_wp2_with fail
      go_meet
      case rel => exact ⟨rfl, rfl, bel_trans (by go_grown) hb⟩
  case rest =>
    obtain ⟨rfl, rfl, hbw⟩ := hcut
    obtain ⟨c1, c3⟩ := HCELL.out _ hbw
    go_wp2_with fail
    clear c1 c3
    go_loopw [7, 8, 26] (fun bv sv i wr => ∃ (j b : Nat), i = .int .i64 j ∧ bv = .int .i64 b ∧ sv = .string (PP b) ∧ (j = 0 ∧ b = 1 ∨ j = 1 ∧ b = (bstep 3 l 1 3)) ∧ Below (W.alloc (.cells #[.int .i64 1, .int .i64 3] 3)).heap.size (W.alloc (.cells #[.int .i64 1, .int .i64 3] 3)) wr) (fun _ _ i _ => 1 - (intOf i).toNat)
    case atStart => exact ⟨0, 1, rfl, rfl, rfl, .inl ⟨rfl, rfl⟩, hbw⟩
    case round =>
      clear hbw
      obtain ⟨j, b, rfl, rfl, rfl, hjb, hbel⟩ := hrel
      rcases hjb with ⟨rfl, hb⟩ | ⟨rfl, hb⟩
      · obtain ⟨c1, c3⟩ := HCELL.out _ hbel
        have hr2 := HR1.out.step hbel
        have HBB := Lib.hid hb
        clear hb
        go_wp2_with fail
        (with_reducible refine (HP3.out _ hr2).mono ?_); rintro e w5 ⟨rfl, hb5⟩
        have hbel5 := bel_trans hbel hb5
        clear hr2 hbel hb5 c1 c3
        by_cases hlt : (PP 3).size < (PP b).size
        · have HS2 := Lib.hid (show bstep 3 l b 3 = 3 from if_pos (by have h := hlt; rw [HZ.out, HZ.out] at h; exact h))
          have hd1 : decide ((PP 3).size < (PP b).size) = true := decide_eq_true hlt
          have hd2 : decide (((PP 3).size : Int) < ((PP b).size : Int)) = true := decide_eq_true (by omega)
          clear hlt
          go_wp2_with fail
          go_roundw
          case rel => exact ⟨1, 3, by first | rfl | go_num, rfl, rfl, .inr (⟨rfl, HS2.out.symm.trans (by rw [HBB.out])⟩), hbel5⟩
          case measure => simp [intOf] <;> omega
        · have HS2 := Lib.hid (show bstep 3 l b 3 = b from if_neg (by have h := hlt; rw [HZ.out, HZ.out] at h; exact h))
          have hd1 : decide ((PP 3).size < (PP b).size) = false := decide_eq_false hlt
          have hd2 : decide (((PP 3).size : Int) < ((PP b).size : Int)) = false := decide_eq_false (by omega)
          clear hlt
          go_wp2_with fail
          go_roundw
          case rel => exact ⟨1, b, by first | rfl | go_num, rfl, rfl, .inr (⟨rfl, HS2.out.symm.trans (by rw [HBB.out])⟩), hbel5⟩
          case measure => simp [intOf] <;> omega
      · have HEH := Lib.hid (hb.trans HF.out)
        clear hb
        go_wp2
        go_ret2
        exact RetB.mk (by rw [← HEH.out]; rfl) (HB1.out.trans (hbel.mono (by rw [HS1.out]; exact Nat.le_succ _)))
set_option maxRecDepth 100000 in
set_option maxHeartbeats 1000000 in
theorem short_n (typ : Int) (v : Value) (l : List Vl) (W : World) (hr : RdL W W.heap.size v l) (hl : l.length ≤ 4096) (hv : ∀ x ∈ l, Vok x) (hT : okT typ = true) (h3 : typ ≠ 3) :
    Calls Tryz.prog 30 #[.int .i64 typ, v] W (RetB (.tuple #[.int .i64 (bestK typ l : Nat), .string (str (payB typ (bestK typ l : Nat) l))]) W) := by
  obtain ⟨A, c, _, rfl, rfl, hc1, hc2⟩ := hr.bds
  have HB1 := Lib.hid ((Below.refl W.heap.size W).alloc (Nat.le_refl _) (.cells #[.int .i64 1, .int .i64 2, .int .i64 4] 3))
  have HS1 := Lib.hid (show (W.alloc (.cells #[.int .i64 1, .int .i64 2, .int .i64 4] 3)).heap.size = W.heap.size + 1 from by simp)
  have HR1 := Lib.hid (hr.step HB1.out)
  have HC := Lib.hid (codecsN_at hT h3 W)
  have HCELL := Lib.hid (show ∀ w', Below (W.alloc (.cells #[.int .i64 1, .int .i64 2, .int .i64 4] 3)).heap.size (W.alloc (.cells #[.int .i64 1, .int .i64 2, .int .i64 4] 3)) w' → w'.cell? ⟨W.heap.size, 0, none⟩ = some (.int .i64 1) ∧ w'.cell? ⟨W.heap.size, 1, none⟩ = some (.int .i64 2) ∧ w'.cell? ⟨W.heap.size, 2, none⟩ = some (.int .i64 4) from fun w' hb => ⟨(hb.cell (p := ⟨W.heap.size, 0, none⟩) (by rw [HS1.out]; exact Nat.lt_succ_self _)).trans (by simp), (hb.cell (p := ⟨W.heap.size, 1, none⟩) (by rw [HS1.out]; exact Nat.lt_succ_self _)).trans (by simp), (hb.cell (p := ⟨W.heap.size, 2, none⟩) (by rw [HS1.out]; exact Nat.lt_succ_self _)).trans (by simp)⟩)
  obtain ⟨PP, hPP⟩ : ∃ PP : Nat → ByteArray, ∀ b : Nat, PP b = str (payB typ (b : Int) l) := ⟨_, fun _ => rfl⟩
  have HZ := Lib.hid (fun b : Nat => (congrArg ByteArray.size (hPP b)).trans (str_size _))
  have HPP := Lib.hid hPP
  have HP1 := Lib.hid (fun (w : World) (h : RdL w w.heap.size (.slice A l.length c) l) => putPay_1 typ (.slice A l.length c) l w h hl hv)
  rw [show payB typ 1 l = payB typ ((1 : Nat) : Int) l from rfl, ← hPP 1] at HP1
  have HP2 := Lib.hid (fun (w : World) (h : RdL w w.heap.size (.slice A l.length c) l) => putPay_2 typ (.slice A l.length c) l w h hl hv)
  rw [show payB typ 2 l = payB typ ((2 : Nat) : Int) l from rfl, ← hPP 2] at HP2
  have HP4 := Lib.hid (fun (w : World) (h : RdL w w.heap.size (.slice A l.length c) l) => putPay_4 typ (.slice A l.length c) l w h hl hv)
  rw [show payB typ 4 l = payB typ ((4 : Nat) : Int) l from rfl, ← hPP 4] at HP4
  have HF := Lib.hid (show (bstep typ l (bstep typ l 1 2) 4) = bestK typ l from best_n h3 l)
  rw [← hPP]
  clear hr hv hPP
  go_enter Tryz.func30, Tryz.ntmps30
  go_wp2_with fail
  (with_reducible refine HC.out.mono ?_); rintro e w1 ⟨rfl, rfl⟩
  go_upto_region 2 with fail
  go_cut [7, 8] from 14 to 22 (fun b s w' => b = .int .i64 1 ∧ s = .string (PP 1) ∧ Below (W.alloc (.cells #[.int .i64 1, .int .i64 2, .int .i64 4] 3)).heap.size (W.alloc (.cells #[.int .i64 1, .int .i64 2, .int .i64 4] 3)) w')
  case first =>
    obtain ⟨c1, c2, c4⟩ := HCELL.out (W.alloc (.cells #[.int .i64 1, .int .i64 2, .int .i64 4] 3)) (Below.refl _ _)
    have HPW := Lib.hid (show ∀ w', Below (W.alloc (.cells #[.int .i64 1, .int .i64 2, .int .i64 4] 3)).heap.size (W.alloc (.cells #[.int .i64 1, .int .i64 2, .int .i64 4] 3)) w' → Hid (Calls Tryz.prog 49 #[.int .i64 typ, .int .i64 1, .slice A l.length c] w' (RetB (.string (PP 1)) w')) from fun w' hb => Lib.hid (HP1.out w' (HR1.out.step hb)))
    go_region_with (first | (go_at_call 49; (with_reducible refine (HPW.out _ ?_).out.mono ?_); (first | exact (Below.refl _ _) | exact (Below.refl _ _).drew | go_grown); rintro e w' ⟨rfl, hb⟩; obtain ⟨d1, d2, d4⟩ := HCELL.out _ (bel_trans (by go_grown) hb)))
    all_goals
      go_wp2_with fail
      go_meet
      case rel => exact ⟨rfl, rfl, bel_trans (by go_grown) hb⟩
  case rest =>
    obtain ⟨rfl, rfl, hbw⟩ := hcut
    obtain ⟨c1, c2, c4⟩ := HCELL.out _ hbw
    go_wp2_with fail
    clear c1 c2 c4
    go_loopw [7, 8, 26] (fun bv sv i wr => ∃ (j b : Nat), i = .int .i64 j ∧ bv = .int .i64 b ∧ sv = .string (PP b) ∧ (j = 0 ∧ b = 1 ∨ j = 1 ∧ b = (bstep typ l 1 2) ∨ j = 2 ∧ b = (bstep typ l (bstep typ l 1 2) 4)) ∧ Below (W.alloc (.cells #[.int .i64 1, .int .i64 2, .int .i64 4] 3)).heap.size (W.alloc (.cells #[.int .i64 1, .int .i64 2, .int .i64 4] 3)) wr) (fun _ _ i _ => 2 - (intOf i).toNat)
    case atStart => exact ⟨0, 1, rfl, rfl, rfl, .inl ⟨rfl, rfl⟩, hbw⟩
    case round =>
      clear hbw
      obtain ⟨j, b, rfl, rfl, rfl, hjb, hbel⟩ := hrel
      rcases hjb with ⟨rfl, hb⟩ | ⟨rfl, hb⟩ | ⟨rfl, hb⟩
      · obtain ⟨c1, c2, c4⟩ := HCELL.out _ hbel
        have hr2 := HR1.out.step hbel
        have HBB := Lib.hid hb
        clear hb
        go_wp2_with fail
        (with_reducible refine (HP2.out _ hr2).mono ?_); rintro e w5 ⟨rfl, hb5⟩
        have hbel5 := bel_trans hbel hb5
        clear hr2 hbel hb5 c1 c2 c4
        by_cases hlt : (PP 2).size < (PP b).size
        · have HS2 := Lib.hid (show bstep typ l b 2 = 2 from if_pos (by have h := hlt; rw [HZ.out, HZ.out] at h; exact h))
          have hd1 : decide ((PP 2).size < (PP b).size) = true := decide_eq_true hlt
          have hd2 : decide (((PP 2).size : Int) < ((PP b).size : Int)) = true := decide_eq_true (by omega)
          clear hlt
          go_wp2_with fail
          go_roundw
          case rel => exact ⟨1, 2, by first | rfl | go_num, rfl, rfl, .inr (.inl ⟨rfl, HS2.out.symm.trans (by rw [HBB.out])⟩), hbel5⟩
          case measure => simp [intOf] <;> omega
        · have HS2 := Lib.hid (show bstep typ l b 2 = b from if_neg (by have h := hlt; rw [HZ.out, HZ.out] at h; exact h))
          have hd1 : decide ((PP 2).size < (PP b).size) = false := decide_eq_false hlt
          have hd2 : decide (((PP 2).size : Int) < ((PP b).size : Int)) = false := decide_eq_false (by omega)
          clear hlt
          go_wp2_with fail
          go_roundw
          case rel => exact ⟨1, b, by first | rfl | go_num, rfl, rfl, .inr (.inl ⟨rfl, HS2.out.symm.trans (by rw [HBB.out])⟩), hbel5⟩
          case measure => simp [intOf] <;> omega
      · obtain ⟨c1, c2, c4⟩ := HCELL.out _ hbel
        have hr2 := HR1.out.step hbel
        have HBB := Lib.hid hb
        clear hb
        go_wp2_with fail
        (with_reducible refine (HP4.out _ hr2).mono ?_); rintro e w5 ⟨rfl, hb5⟩
        have hbel5 := bel_trans hbel hb5
        clear hr2 hbel hb5 c1 c2 c4
        by_cases hlt : (PP 4).size < (PP b).size
        · have HS2 := Lib.hid (show bstep typ l b 4 = 4 from if_pos (by have h := hlt; rw [HZ.out, HZ.out] at h; exact h))
          have hd1 : decide ((PP 4).size < (PP b).size) = true := decide_eq_true hlt
          have hd2 : decide (((PP 4).size : Int) < ((PP b).size : Int)) = true := decide_eq_true (by omega)
          clear hlt
          go_wp2_with fail
          go_roundw
          case rel => exact ⟨2, 4, by first | rfl | go_num, rfl, rfl, .inr (.inr (⟨rfl, HS2.out.symm.trans (by rw [HBB.out])⟩)), hbel5⟩
          case measure => simp [intOf] <;> omega
        · have HS2 := Lib.hid (show bstep typ l b 4 = b from if_neg (by have h := hlt; rw [HZ.out, HZ.out] at h; exact h))
          have hd1 : decide ((PP 4).size < (PP b).size) = false := decide_eq_false hlt
          have hd2 : decide (((PP 4).size : Int) < ((PP b).size : Int)) = false := decide_eq_false (by omega)
          clear hlt
          go_wp2_with fail
          go_roundw
          case rel => exact ⟨2, b, by first | rfl | go_num, rfl, rfl, .inr (.inr (⟨rfl, HS2.out.symm.trans (by rw [HBB.out])⟩)), hbel5⟩
          case measure => simp [intOf] <;> omega
      · have HEH := Lib.hid (hb.trans HF.out)
        clear hb
        go_wp2
        go_ret2
        exact RetB.mk (by rw [← HEH.out]; rfl) (HB1.out.trans (hbel.mono (by rw [HS1.out]; exact Nat.le_succ _)))
theorem short_any (typ : Int) (hT : okT typ = true) (v : Value) (l : List Vl) (W : World) (hr : RdL W W.heap.size v l) (hl : l.length ≤ 4096) (hv : ∀ x ∈ l, Vok x) :
    Calls Tryz.prog 30 #[.int .i64 typ, v] W (RetB (.tuple #[.int .i64 (bestK typ l : Nat), .string (str (payB typ (bestK typ l : Nat) l))]) W) := by
  by_cases h3 : typ = 3
  · subst h3; exact short_3 v l W hr hl hv
  · exact short_n typ v l W hr hl hv hT h3
end Go.Proofs.YtbolbbngncnecaaGreat
