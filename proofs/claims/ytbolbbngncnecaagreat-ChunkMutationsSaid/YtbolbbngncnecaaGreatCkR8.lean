/- The walks over the reference's chunks, read: body behind a bitmap. -/
import Derived.Test.YtbolbbngncnecaaGreatCkR7
namespace Go.CK
open Go.RowKit Go.VB Go.VarM Go.BP Go.VS Go.VL Go.NU Go.Proofs.YtbolbbngncnecaaGreat
theorem bm_facts2 {n m r z p : Nat} (hn : n ≤ 4096) (hm : (n + 7) / 8 = m) (hp : r + m = p) (hr : r ≤ z) (hz : z ≤ 140737488351232) : ((n : Int) + 7) / 8 = (m : Int) ∧ ((n : Int) + 7).tdiv 8 = (m : Int) ∧ wrap64 ((n : Int) + 7) = (n : Int) + 7 ∧ wrap64 ((r : Int) + (m : Int)) = (r : Int) + (m : Int) ∧ (z < p → decide ((z : Int) < (r : Int) + (m : Int)) = true ∧ decide (z < r + m) = true) ∧ (p ≤ z → decide ((z : Int) < (r : Int) + (m : Int)) = false ∧ decide (z < r + m) = false ∧ (r : Int) + (m : Int) ≤ (z : Int) ∧ (r : Int) ≤ (r : Int) + (m : Int) ∧ r + m ≤ z) := by
  have h : ((n : Int) + 7) / 8 = (m : Int) := by omega
  exact ⟨h, by rw [Int.tdiv_eq_ediv_of_nonneg (by omega)]; exact h, by unfold wrap64; omega, by unfold wrap64; omega, fun h => ⟨decide_eq_true (by omega), decide_eq_true (by omega)⟩, fun h => ⟨decide_eq_false (by omega), decide_eq_false (by omega), by omega, by omega, by omega⟩⟩
theorem small_i64 {n : Nat} (h : n ≤ 4096) : -9223372036854775808 ≤ (n : Int) ∧ (n : Int) ≤ 9223372036854775807 := ⟨by omega, by omega⟩
end Go.CK
namespace Go.Proofs.YtbolbbngncnecaaGreat
open Go.RowKit Go.VB Go.VarM Go.BP Go.RL Go.VS Go.VL Go.DI Go.CK Go.NU
section
variable (nm : ByteArray) (ty sc : Int) (nu : Bool) (s : ByteArray) (W : World) (zs : s.size ≤ 140737488351232) (h0 : 1 ≤ s.size)
include zs h0
set_option maxRecDepth 100000 in
set_option maxHeartbeats 400000 in
theorem rbody_ks {n k r : Nat} {q : Int} (h1 : getR s 1 = (n, q, 0)) (hn : n ≤ 4096) (hu : uses ty (bN s 0 : Nat) = true) (h2 : getR s q = (k, (r : Int), 0)) (hr : r ≤ s.size) (hk : k ≠ 0) (hkn : k ≤ n) (hlo : s.size < r + (n + 7) / 8) : Calls Tryz.prog 46 #[(.agg #[.string nm, .int .i64 ty, .int .i64 sc, .bool nu]), .string s] W (PlP (bodyD ty nu s) W) := by
  rw [bodyD_t h1 hn hu h2 hkn]
  have HG := fun w => Lib.hid (rget_ok s 1 w (by unfold maxLen; omega) h1)
  have HG2 := fun w => Lib.hid (rget_ok s q w (by unfold maxLen; omega) h2)
  have HU := fun w => Lib.hid (uses_any ty (bN s 0 : Nat) w)
  have HUS := Lib.hid (uses_le hu)
  rw [hu] at HU
  obtain ⟨m, hm⟩ : ∃ m, (n + 7) / 8 = m := ⟨_, rfl⟩
  obtain ⟨p, hp⟩ : ∃ p, r + m = p := ⟨_, rfl⟩
  clear h1 h2 hu
  have HB1 := Lib.hid ((Below.refl W.heap.size W).alloc (Nat.le_refl _) (.cells #[.string nm, .int .i64 ty, .int .i64 sc, .bool nu] 24))
  have HS1 := Lib.hid (show (W.alloc (.cells #[.string nm, .int .i64 ty, .int .i64 sc, .bool nu] 24)).heap.size = W.heap.size + 1 from by simp)
  have HVR := Lib.hid (Var4.new W (.string nm) (.int .i64 ty) (.int .i64 sc) (.bool nu) 24)
  have hb0 := get_bN s
  have hbl := bN_lt s 0
  have hlt : (0 : Int) < (s.size : Int) := by omega
  have hlt2 : 0 < s.size := h0
  obtain ⟨x, hx⟩ : ∃ x, bN s 0 = x := ⟨_, rfl⟩
  have hwx : wrap64 (x : Int) = (x : Int) := by rw [← hx]; unfold wrap64; omega
  clear hbl
  rw [hx] at HU HUS ⊢
  have hk1 : decide ((0 : Int) < (k : Int)) = true := decide_eq_true (Int.natCast_pos.2 (Nat.pos_of_ne_zero hk))
  have hk2 : decide (0 < k) = true := decide_eq_true (Nat.pos_of_ne_zero hk)
  have hk3 : 0 < k := Nat.pos_of_ne_zero hk
  have HMK := Lib.hid (fun w => run_makeBu (P := Tryz.prog) Tryz.underlying45 Tryz.infBool n hn w)
  rw [hm] at hlo
  rw [tail_short hk hm hlo]
  rw [hp] at hlo
  obtain ⟨hd, hd2, d3, d4, hw1, hw2, hw3, hw4, hw5⟩ := bk_facts (n := n) (k := k) (N := n - k) hn rfl hkn
  have hw6 : IntKind.i64.wrap (n : Int) = (n : Int) := IntWalk.i64_in _ (small_i64 hn)
  have hw7 : IntKind.i64.wrap (k : Int) = (k : Int) := IntWalk.i64_in _ (small_i64 (Nat.le_trans hkn hn))
  obtain ⟨g1, g2, g3, g4, g5, g6⟩ := bm_facts2 hn hm hp hr zs
  obtain ⟨c1, c2⟩ := g5 hlo
  clear g5 g6 hlo hm hp hk hkn hr
  obtain ⟨v0, v1, v2, v3⟩ := HVR.out
  go_enter Tryz.func46, Tryz.ntmps46
  go_wp2_with fail
  (with_reducible refine (HG _).out.mono ?_); rintro e w1 ⟨rfl, rfl⟩
  go_wp2_with fail
  (with_reducible refine (HU _).out.mono ?_); rintro e w2 ⟨rfl, hb2⟩
  clear v0 v1 v2 v3
  have hmk := HMK.out w2
  have hbm : Below w2.heap.size w2 (w2.alloc (.cells (madeCells #[.bool false] n) 4)) := (Below.refl _ _).alloc (Nat.le_refl _) _
  go_wp2_with fail
  (with_reducible refine (HG2 _).out.mono ?_); rintro e w1 ⟨rfl, rfl⟩
  go_upto_region 10 with fail
  clear hd hd2 d3 d4 hw1 hw2 hw3 hb0 hlt hlt2 hwx hk1 hk2 hk3 hw5 hw7 hx
  go_upto_region 11 with fail
  clear hw4 hw6 g1 g2 g3
  go_wp2
  go_ret2
  exact PlP.mk rfl (RdL.nil _ _) (.inr ⟨rfl, rfl⟩) (bel_trans HB1.out (bel_trans hb2 hbm))
set_option maxRecDepth 100000 in
set_option maxHeartbeats 400000 in
theorem rbody_kb {n k r : Nat} {q : Int} (h1 : getR s 1 = (n, q, 0)) (hn : n ≤ 4096) (hu : uses ty (bN s 0 : Nat) = true) (h2 : getR s q = (k, (r : Int), 0)) (hr : r ≤ s.size) (hk : k ≠ 0) (hkn : k ≤ n) (hlo : r + (n + 7) / 8 ≤ s.size) (hbad : (upk (s.extract r (r + (n + 7) / 8)) n).2 ≠ 0 ∨ ones (num (s.extract r (r + (n + 7) / 8))) (8 * ((n + 7) / 8)) ≠ k) : Calls Tryz.prog 46 #[(.agg #[.string nm, .int .i64 ty, .int .i64 sc, .bool nu]), .string s] W (PlP (bodyD ty nu s) W) := by
  rw [bodyD_t h1 hn hu h2 hkn]
  have HG := fun w => Lib.hid (rget_ok s 1 w (by unfold maxLen; omega) h1)
  have HG2 := fun w => Lib.hid (rget_ok s q w (by unfold maxLen; omega) h2)
  have HU := fun w => Lib.hid (uses_any ty (bN s 0 : Nat) w)
  have HUS := Lib.hid (uses_le hu)
  rw [hu] at HU
  obtain ⟨m, hm⟩ : ∃ m, (n + 7) / 8 = m := ⟨_, rfl⟩
  obtain ⟨p, hp⟩ : ∃ p, r + m = p := ⟨_, rfl⟩
  clear h1 h2 hu
  have HB1 := Lib.hid ((Below.refl W.heap.size W).alloc (Nat.le_refl _) (.cells #[.string nm, .int .i64 ty, .int .i64 sc, .bool nu] 24))
  have HS1 := Lib.hid (show (W.alloc (.cells #[.string nm, .int .i64 ty, .int .i64 sc, .bool nu] 24)).heap.size = W.heap.size + 1 from by simp)
  have HVR := Lib.hid (Var4.new W (.string nm) (.int .i64 ty) (.int .i64 sc) (.bool nu) 24)
  have hb0 := get_bN s
  have hbl := bN_lt s 0
  have hlt : (0 : Int) < (s.size : Int) := by omega
  have hlt2 : 0 < s.size := h0
  obtain ⟨x, hx⟩ : ∃ x, bN s 0 = x := ⟨_, rfl⟩
  have hwx : wrap64 (x : Int) = (x : Int) := by rw [← hx]; unfold wrap64; omega
  clear hbl
  rw [hx] at HU HUS ⊢
  have hk1 : decide ((0 : Int) < (k : Int)) = true := decide_eq_true (Int.natCast_pos.2 (Nat.pos_of_ne_zero hk))
  have hk2 : decide (0 < k) = true := decide_eq_true (Nat.pos_of_ne_zero hk)
  have hk3 : 0 < k := Nat.pos_of_ne_zero hk
  have HMK := Lib.hid (fun w => run_makeBu (P := Tryz.prog) Tryz.underlying45 Tryz.infBool n hn w)
  rw [hm] at hlo hbad
  obtain ⟨B, hB⟩ : ∃ B, s.extract r p = B := ⟨_, rfl⟩
  have hBs : B.size = m := by rw [← hB, ← hp]; exact sz_extract hlo
  have hBz : B.size ≤ 140737488351232 := Nat.le_trans (Nat.le_of_eq hBs) (Nat.le_trans (Nat.le_add_left m r) (Nat.le_trans hlo zs))
  have HUP := fun w => Lib.hid (runpackb_any B (n : Int) w hBz)
  have HC := fun w => Lib.hid (rcount_any B w hBz)
  rw [hBs] at HC
  clear hBz hBs
  have hB' : s.extract r (r + m) = B := by rw [hp]; exact hB
  have hlo' := hlo
  rw [hp] at hlo
  obtain ⟨hd, hd2, d3, d4, hw1, hw2, hw3, hw4, hw5⟩ := bk_facts (n := n) (k := k) (N := n - k) hn rfl hkn
  have hw6 : IntKind.i64.wrap (n : Int) = (n : Int) := IntWalk.i64_in _ (small_i64 hn)
  have hw7 : IntKind.i64.wrap (k : Int) = (k : Int) := IntWalk.i64_in _ (small_i64 (Nat.le_trans hkn hn))
  obtain ⟨g1, g2, g3, g4, g5, g6⟩ := bm_facts2 hn hm hp hr zs
  have HC6 := Lib.hid (g6 hlo)
  have HW7 := Lib.hid hw7
  clear hw7
  rw [hB'] at hbad
  rw [tail_bad hk hm hlo' hB' hbad]
  generalize ones (num B) (8 * m) = O at *
  generalize upk B n = U at *
  obtain ⟨ub, uc⟩ := U
  simp only at HUP hbad
  clear g5 g6 hlo hlo' hB hm hp hk hkn hr
  by_cases huc : uc = 0
  · subst huc
    have HD9 := Lib.hid <| show ((O : Int) != (k : Int)) = true from ine_t (fun e => by rcases hbad with h | h; exact h rfl; exact h (Int.ofNat_inj.1 e))
    clear hbad
    obtain ⟨v0, v1, v2, v3⟩ := HVR.out
    go_enter Tryz.func46, Tryz.ntmps46
    go_wp2_with fail
    (with_reducible refine (HG _).out.mono ?_); rintro e w1 ⟨rfl, rfl⟩
    go_wp2_with fail
    (with_reducible refine (HU _).out.mono ?_); rintro e w2 ⟨rfl, hb2⟩
    clear v0 v1 v2 v3
    have hmk := HMK.out w2
    have hbm : Below w2.heap.size w2 (w2.alloc (.cells (madeCells #[.bool false] n) 4)) := (Below.refl _ _).alloc (Nat.le_refl _) _
    go_wp2_with fail
    (with_reducible refine (HG2 _).out.mono ?_); rintro e w1 ⟨rfl, rfl⟩
    go_upto_region 10 with fail
    clear hd hd2 d3 d4 hw1 hw2 hw3 hb0 hlt hlt2 hwx hk1 hk2 hk3 hw5 hx
    go_upto_region 11 with fail
    clear hw4 g1 g2 g3
    obtain ⟨c1, c2, c3, c4, c5⟩ := HC6.out
    clear HC6
    go_wp2_with fail
    (with_reducible refine (HUP _).out.mono ?_); rintro e w7 ⟨v, rfl, hown, hb7⟩
    have hd9 := HD9.out
    have hw7 := HW7.out
    clear hown HW7
    go_wp2_with fail
    (with_reducible refine (HC _).out.mono ?_); rintro e w8 ⟨rfl, rfl⟩
    go_wp2
    go_ret2
    exact PlP.mk rfl (RdL.nil _ _) (.inr ⟨rfl, rfl⟩) (bel_trans HB1.out (bel_trans (bel_trans hb2 hbm) hb7))
  · have HD9 := Lib.hid <| show ((uc : Int) != 0) = true from chkE_ne huc
    clear hbad huc
    obtain ⟨v0, v1, v2, v3⟩ := HVR.out
    go_enter Tryz.func46, Tryz.ntmps46
    go_wp2_with fail
    (with_reducible refine (HG _).out.mono ?_); rintro e w1 ⟨rfl, rfl⟩
    go_wp2_with fail
    (with_reducible refine (HU _).out.mono ?_); rintro e w2 ⟨rfl, hb2⟩
    clear v0 v1 v2 v3
    have hmk := HMK.out w2
    have hbm : Below w2.heap.size w2 (w2.alloc (.cells (madeCells #[.bool false] n) 4)) := (Below.refl _ _).alloc (Nat.le_refl _) _
    go_wp2_with fail
    (with_reducible refine (HG2 _).out.mono ?_); rintro e w1 ⟨rfl, rfl⟩
    go_upto_region 10 with fail
    clear hd hd2 d3 d4 hw1 hw2 hw3 hb0 hlt hlt2 hwx hk1 hk2 hk3 hw5 hx
    go_upto_region 11 with fail
    clear hw4 g1 g2 g3
    obtain ⟨c1, c2, c3, c4, c5⟩ := HC6.out
    clear HC6
    go_wp2_with fail
    (with_reducible refine (HUP _).out.mono ?_); rintro e w7 ⟨v, rfl, hown, hb7⟩
    have hd9 := HD9.out
    have hw7 := HW7.out
    clear hown HW7
    go_wp2
    go_ret2
    exact PlP.mk rfl (RdL.nil _ _) (.inr ⟨rfl, rfl⟩) (bel_trans HB1.out (bel_trans (bel_trans hb2 hbm) hb7))
set_option maxRecDepth 100000 in
set_option maxHeartbeats 800000 in
theorem rbody_k {n k r : Nat} {q : Int} (h1 : getR s 1 = (n, q, 0)) (hn : n ≤ 4096) (hu : uses ty (bN s 0 : Nat) = true) (h2 : getR s q = (k, (r : Int), 0)) (hr : r ≤ s.size) (hk : k ≠ 0) (hkn : k ≤ n) (hlo : r + (n + 7) / 8 ≤ s.size) (he1 : (upk (s.extract r (r + (n + 7) / 8)) n).2 = 0) (he2 : ones (num (s.extract r (r + (n + 7) / 8))) (8 * ((n + 7) / 8)) = k) : Calls Tryz.prog 46 #[(.agg #[.string nm, .int .i64 ty, .int .i64 sc, .bool nu]), .string s] W (PlP (bodyD ty nu s) W) := by
  rw [bodyD_t h1 hn hu h2 hkn]
  have HG := fun w => Lib.hid (rget_ok s 1 w (by unfold maxLen; omega) h1)
  have HG2 := fun w => Lib.hid (rget_ok s q w (by unfold maxLen; omega) h2)
  have HU := fun w => Lib.hid (uses_any ty (bN s 0 : Nat) w)
  have HUS := Lib.hid (uses_le hu)
  rw [hu] at HU
  obtain ⟨m, hm⟩ : ∃ m, (n + 7) / 8 = m := ⟨_, rfl⟩
  obtain ⟨p, hp⟩ : ∃ p, r + m = p := ⟨_, rfl⟩
  clear h1 h2 hu
  have HB1 := Lib.hid ((Below.refl W.heap.size W).alloc (Nat.le_refl _) (.cells #[.string nm, .int .i64 ty, .int .i64 sc, .bool nu] 24))
  have HS1 := Lib.hid (show (W.alloc (.cells #[.string nm, .int .i64 ty, .int .i64 sc, .bool nu] 24)).heap.size = W.heap.size + 1 from by simp)
  have HVR := Lib.hid (Var4.new W (.string nm) (.int .i64 ty) (.int .i64 sc) (.bool nu) 24)
  have hb0 := get_bN s
  have hbl := bN_lt s 0
  have hlt : (0 : Int) < (s.size : Int) := by omega
  have hlt2 : 0 < s.size := h0
  obtain ⟨x, hx⟩ : ∃ x, bN s 0 = x := ⟨_, rfl⟩
  have hwx : wrap64 (x : Int) = (x : Int) := by rw [← hx]; unfold wrap64; omega
  clear hbl
  rw [hx] at HU HUS ⊢
  have hk1 : decide ((0 : Int) < (k : Int)) = true := decide_eq_true (Int.natCast_pos.2 (Nat.pos_of_ne_zero hk))
  have hk2 : decide (0 < k) = true := decide_eq_true (Nat.pos_of_ne_zero hk)
  have hk3 : 0 < k := Nat.pos_of_ne_zero hk
  have HMK := Lib.hid (fun w => run_makeBu (P := Tryz.prog) Tryz.underlying45 Tryz.infBool n hn w)
  rw [hm] at hlo he1 he2
  obtain ⟨U, hU⟩ : ∃ U, s.extract (r + m) s.size = U := ⟨_, rfl⟩
  have hUz : U.size ≤ 140737488351232 := Nat.le_trans (by rw [← hU, ByteArray.size_extract, Nat.min_self]; exact Nat.sub_le _ _) zs
  obtain ⟨B, hB⟩ : ∃ B, s.extract r p = B := ⟨_, rfl⟩
  have hBs : B.size = m := by rw [← hB, ← hp]; exact sz_extract hlo
  have hBz : B.size ≤ 140737488351232 := Nat.le_trans (Nat.le_of_eq hBs) (Nat.le_trans (Nat.le_add_left m r) (Nat.le_trans hlo zs))
  have HUP := fun w => Lib.hid (runpackb_any B (n : Int) w hBz)
  have HC := fun w => Lib.hid (rcount_any B w hBz)
  rw [hBs] at HC
  clear hBz
  have hB' : s.extract r (r + m) = B := by rw [hp]; exact hB
  have hlo' := hlo
  rw [hp] at hlo
  rw [hB'] at he1 he2
  rw [tail_ok hk hm hlo' hB' he1 he2]
  obtain ⟨hul, huo⟩ := upk_ones hn he1
  rw [hBs, he2] at huo
  rw [he1] at HUP
  rw [he2] at HC
  obtain ⟨N, hN⟩ : ∃ N, n - k = N := ⟨_, rfl⟩
  have HCN := Lib.hid (show (upk B n).1.count false = N by have h1 := count_two (upk B n).1; rw [hul] at h1; rw [← hN, huo]; exact (Nat.sub_eq_of_eq_add h1.symm).symm)
  have HNN := Lib.hid (show N ≤ 4096 from by rw [← hN]; exact Nat.le_trans (Nat.sub_le _ _) hn)
  have HP := fun w => Lib.hid (unpay_any ty U N w hUz HNN.out x HUS.out.1 HUS.out.2)
  have HPL := Lib.hid (fun (l : List Vl) (h : payD ty (x : Int) U N = some l) => payD_len HNN.out h)
  rw [hU, hN]
  generalize payD ty (x : Int) U N = D at *
  have hbn : (upk B n).1.length ≤ 4096 := Nat.le_trans (Nat.le_of_eq hul) hn
  have HBN := Lib.hid hul
  clear hBs he1 he2 huo hul hUz
  generalize (upk B n).1 = b at *
  obtain ⟨hd, hd2, d3, d4, hw1, hw2, hw3, hw4, hw5⟩ := bk_facts (n := n) (k := k) (N := N) hn hN hkn
  have hw6 : IntKind.i64.wrap (n : Int) = (n : Int) := IntWalk.i64_in _ (small_i64 hn)
  have hw7 : IntKind.i64.wrap (k : Int) = (k : Int) := IntWalk.i64_in _ (small_i64 (Nat.le_trans hkn hn))
  obtain ⟨g1, g2, g3, g4, g5, g6⟩ := bm_facts2 hn hm hp hr zs
  have HC6 := Lib.hid (g6 hlo)
  have HW7 := Lib.hid hw7
  clear hw7
  have HWa := Lib.hid hw1; have HWb := Lib.hid hw3
  clear hw1 hw2 hw3 g5 g6 hlo hlo' hB hm hp hk hkn hr hN
  obtain ⟨v0, v1, v2, v3⟩ := HVR.out
  go_enter Tryz.func46, Tryz.ntmps46
  go_wp2_with fail
  (with_reducible refine (HG _).out.mono ?_); rintro e w1 ⟨rfl, rfl⟩
  go_wp2_with fail
  (with_reducible refine (HU _).out.mono ?_); rintro e w2 ⟨rfl, hb2⟩
  clear v0 v1 v2 v3
  have hmk := HMK.out w2
  have hbm : Below w2.heap.size w2 (w2.alloc (.cells (madeCells #[.bool false] n) 4)) := (Below.refl _ _).alloc (Nat.le_refl _) _
  go_wp2_with fail
  (with_reducible refine (HG2 _).out.mono ?_); rintro e w1 ⟨rfl, rfl⟩
  go_upto_region 10 with fail
  clear hd hd2 d3 d4 hb0 hlt hlt2 hwx hk1 hk2 hk3 hw5 hx
  go_upto_region 11 with fail
  clear hw4 g1 g2 g3
  obtain ⟨c1, c2, c3, c4, c5⟩ := HC6.out
  clear HC6
  go_wp2_with fail
  (with_reducible refine (HUP _).out.mono ?_); rintro e w7 ⟨v, rfl, hown, hb7⟩
  have hrd := hown.read
  obtain ⟨A, cb, _, rfl, rfl, hcb1, hcb2⟩ := hrd.bds
  have hw7 := HW7.out
  clear hown HW7
  have HRN := Lib.hid hrd
  have HBW := Lib.hid (show Below (W.heap.size + 1) (W.alloc (.cells #[.string nm, .int .i64 ty, .int .i64 sc, .bool nu] 24)) w7 from by have h := bel_trans (bel_trans hb2 hbm) hb7; rw [HS1.out] at h; exact h)
  clear hrd hmk hbm hb2 hb7
  go_wp2_with fail
  (with_reducible refine (HC _).out.mono ?_); rintro e w8 ⟨rfl, rfl⟩
  have hw1 := HWa.out; have hw3 := HWb.out
  obtain ⟨wn, hwn⟩ : ∃ wn, w7 = wn := ⟨_, rfl⟩
  rw [hwn] at HRN HBW ⊢
  clear hwn
  have hszn := HBW.out.size
  rw [HS1.out] at hszn
  obtain ⟨v0, v1, v2, v3⟩ := HVR.out.below HBW.out (Nat.lt_succ_self _)
  go_upto_region 18 with fail
  go_cut [14, 15] from 93 to 106 (fun sv okv w' => ∃ l ok, okv = .bool ok ∧ RdL w' w'.heap.size sv l ∧ ((ok = true ∧ D = some l) ∨ (ok = false ∧ D = none)) ∧ Below wn.heap.size wn w')
  case first =>
    go_region_with (first | (go_at_call 67; (with_reducible refine (HP _).out.mono ?_); rintro e w5 ⟨vp, l, ok, rfl, hrp, hd, hb5⟩))
    all_goals
      have HD5 := Lib.hid hd
      clear hd
      go_wp2_with fail
      go_meet
      case rel => exact ⟨l, ok, rfl, hrp, HD5.out, bel_trans (by go_grown) hb5⟩
  case rest =>
    clear hw1 hw3 hw6 hw7 g4 c1 c2 c3 c4 c5
    clear HWa HWb HG HG2 HU HMK HUS HUP HC hU hB' hcb1 hcb2 HNN HBN
    obtain ⟨l, ok, rfl, hrp, hd, hb5⟩ := hcut
    have HRP := Lib.hid hrp
    have hbw5 := HBW.out.trans (hb5.mono hszn)
    have HRN5 := Lib.hid (HRN.out.step hb5)
    clear HRN HP v0 v1 v2 v3 hrp
    rcases hd with ⟨rfl, hd⟩ | ⟨rfl, hd⟩
    · have HFB := Lib.hid (fun (m : Nat) (y : Vl) (hm : y ∈ weave (b.take m) l) (hy : chkV ty nu y ≠ 0) => show D.bind (fin ty nu b) = none by rw [hd]; exact fin_bad hm hy)
      have HFG := Lib.hid (fun (hm : ∀ y ∈ weave b l, chkV ty nu y = 0) => show D.bind (fin ty nu b) = some (weave b l) by rw [hd]; exact fin_good hm)
      have HPLN := Lib.hid (HPL.out l hd)
      generalize D.bind (fin ty nu b) = R at *
      have hbx : Below W.heap.size W wc := HB1.out.trans (hbw5.mono (Nat.le_succ _))
      have HBX := Lib.hid hbx
      clear hd hb5 HBW HPL hbx
      have hsz5 := hbw5.size
      rw [HS1.out] at hsz5
      have HV5 := Lib.hid (HVR.out.below hbw5 (Nat.lt_succ_self _))
      clear hbw5 hszn HVR
      go_wp2_with fail
      go_loopw [4, 5, 14, 16, 111] (fun r1 r2 sv ov i wr => ∃ (j k : Nat), r1 = .slice none 0 0 ∧ r2 = .bool false ∧ i = .int .i64 j ∧ j ≤ b.length ∧ k = (b.take j).count false ∧ RdL wr wc.heap.size sv (l.drop k) ∧ OwnL 42 wr wc.heap.size ov (weave (b.take j) l) ∧ (∀ y ∈ weave (b.take j) l, chkV ty nu y = 0) ∧ Below wc.heap.size wc wr) (fun _ _ _ _ i _ => b.length - (intOf i).toNat)
      case atStart => exact ⟨0, 0, rfl, rfl, rfl, Nat.zero_le _, rfl, HRP.out, OwnL.nil _ _ _, fun _ h => by simp [weave_nil] at h, Below.refl _ _⟩
      case round =>
        obtain ⟨j, k, rfl, rfl, rfl, hj, hk, hrs, hown, hall, hbel⟩ := hrel
        have HK := Lib.hid hk; have HAL := Lib.hid hall
        clear hk hall
        have hszr := hbel.size
        by_cases hlt3 : j < b.length
        · have hlj : b[j]? = some b[j] := List.getElem?_eq_getElem hlt3
          obtain ⟨adn, hadn, _, q0⟩ := (HRN5.out.below hbel).at hlj
          subst hadn
          have HJ := Lib.hid hlj; clear hlj
          generalize b[j] = y at q0 HJ
          replace q0 : wr.cell? (Addr.add _ j) = some (.bool y) := q0
          have HWL := Lib.hid (show (weave (b.take j) l).length ≤ 4096 by rw [weave_len, List.length_take]; omega)
          cases y
          · have hkl : k < l.length := by rw [HPLN.out, HK.out, ← HCN.out]; exact count_lt HJ.out
            rw [drop_cons hkl] at hrs
            obtain ⟨As, cs, nL, rfl, hls, hcs1, hcs2⟩ := hrs.bds
            have hnL : nL = l.length - k := by rw [hls, List.length_cons, List.length_drop]; omega
            have hrsD := hrs.below (((Below.refl wc.heap.size wr).alloc hszr (.cells #[.bool true, .int .i64 0, .string ⟨#[]⟩] 42)).drew)
            obtain ⟨ads, rfl, hab, p0, p1, p2⟩ := hrsD.at (i := 0) (x := l[k]) rfl
            rw [show (0 : Nat) * 3 = 0 from rfl, addr_zero] at p0 p1 p2
            have ht1 := hrs.tail1
            rw [hnL] at ht1
            have hlk : l[k]? = some l[k] := List.getElem?_eq_getElem hkl
            have HW := Lib.hid (weave_snocF HJ.out HK.out hlk)
            have HCS := Lib.hid (count_snoc HJ.out)
            generalize l[k] = X at p0 p1 p2 HW hlk
            obtain ⟨yb, yn, ys⟩ := X
            simp only at p0 p1 p2
            have hcs3 : 1 ≤ cs := by rw [hls, List.length_cons] at hcs1; exact Nat.le_trans (Nat.le_add_left 1 _) hcs1
            have hlk0 : 0 < l.length - k := Nat.sub_pos_of_lt hkl
            have hlk1 : (0 : Int) < ((l.length - k : Nat) : Int) := by omega
            have hlk2 : 1 ≤ l.length - k := hlk0
            have HT1 := Lib.hid ht1
            have HRB := Lib.hid (((Below.refl wc.heap.size wr).alloc hszr (.cells #[.bool true, .int .i64 0, .string ⟨#[]⟩] 42)).drew)
            clear hrsD hrs ht1
            go_upto_region 27 with fail
            go_cut [14] from 118 to 122 (fun sv w' => RdL w' wc.heap.size sv (l.drop (k + 1)) ∧ w' = (wr.alloc (.cells #[.bool yb, .int .i64 yn, .string ys] 42)).drew)
            case first =>
              by_cases hc1 : cs = 1
              · subst hc1
                have ht1 := HT1.out
                rw [if_pos rfl] at ht1
                have HT1 := Lib.hid ht1
                clear ht1
                go_region
                go_wp2_with fail
                go_meet
                case rel => exact ⟨HT1.out.below ((Below.refl wc.heap.size wr).alloc hszr (.cells #[.bool yb, .int .i64 yn, .string ys] 42)).drew, rfl⟩
              · have ht1 := HT1.out
                rw [if_neg hc1] at ht1
                have HT1 := Lib.hid ht1
                clear ht1
                go_region
                go_wp2_with fail
                go_meet
                case rel => exact ⟨HT1.out.below ((Below.refl wc.heap.size wr).alloc hszr (.cells #[.bool yb, .int .i64 yn, .string ys] 42)).drew, rfl⟩
            case rest =>
              obtain ⟨hrsN, rfl⟩ := hcut
              have HBV := Lib.hid ((hbel.alloc hszr (.cells #[.bool yb, .int .i64 yn, .string ys] 42)).drew)
              have HO5 := Lib.hid ((hown.alloc (.cells #[.bool yb, .int .i64 yn, .string ys] 42)).drew)
              have HL5 := Lib.hid (show RdL (wr.alloc (.cells #[.bool yb, .int .i64 yn, .string ys] 42)).drew (wr.alloc (.cells #[.bool yb, .int .i64 yn, .string ys] 42)).drew.heap.size (.slice (some ⟨wr.heap.size, 0, none⟩) 1 1) [(⟨yb, yn, ys⟩ : Vl)] from RdL.lit1d wr yb yn ys 42)
              generalize (wr.alloc (.cells #[.bool yb, .int .i64 yn, .string ys] 42)).drew = WV at *
              clear p0 p1 p2 hlk0 hlk1 hlk2 HT1 HRB hls hcs1 hcs2 hcs3 q0 hown hbel hlk hab hkl
              have HRSN := Lib.hid hrsN
              clear hrsN
              obtain ⟨v0, v1, v2, v3⟩ := HV5.out.below HBV.out HV5.out.lt
              obtain ⟨adx, hadx, _, c0, c1, c2⟩ := HL5.out.at (i := 0) (x := (⟨yb, yn, ys⟩ : Vl)) rfl
              obtain rfl := Option.some.inj hadx
              clear hadx
              replace c0 : WV.cell? ⟨wr.heap.size, 0, none⟩ = some (.bool yb) := c0
              replace c1 : WV.cell? ⟨wr.heap.size, 1, none⟩ = some (.int .i64 yn) := c1
              replace c2 : WV.cell? ⟨wr.heap.size, 2, none⟩ = some (.string ys) := c2
              go_wp2_with fail
              (with_reducible refine (rchk_any nm ty sc nu yb yn ys _).mono ?_); rintro e w6 ⟨rfl, hb6⟩
              have HB6 := Lib.hid hb6
              have hbw := HBV.out.trans (hb6.mono HBV.out.size)
              clear v0 v1 v2 v3 c0 c1 c2
              obtain ⟨adx, hadx, _, c0, c1, c2⟩ := (HL5.out.step hb6).at (i := 0) (x := (⟨yb, yn, ys⟩ : Vl)) rfl
              obtain rfl := Option.some.inj hadx
              clear hadx
              replace c0 : w6.cell? ⟨wr.heap.size, 0, none⟩ = some (.bool yb) := c0
              replace c1 : w6.cell? ⟨wr.heap.size, 1, none⟩ = some (.int .i64 yn) := c1
              replace c2 : w6.cell? ⟨wr.heap.size, 2, none⟩ = some (.string ys) := c2
              obtain ⟨C, hC⟩ : ∃ C, chkV ty nu (⟨yb, yn, ys⟩ : Vl) = C := ⟨_, rfl⟩
              have hC' : chk ty nu yb yn ys = C := hC
              rw [hC']
              have HC := Lib.hid hC
              clear hC hC' hb6 HL5
              by_cases h0 : C = 0
              · subst h0
                have HX2 := Lib.hid (RdL.lit w6 [(⟨yb, yn, ys⟩ : Vl)] 1 42 (Nat.le_refl 1) (by decide))
                have HO := Lib.hid ((HO5.out.below HB6.out).alloc (.cells #[.bool yb, .int .i64 yn, .string ys] 42))
                have HBA := Lib.hid (hbw.alloc hbw.size (.cells #[.bool yb, .int .i64 yn, .string ys] 42))
                have HL1 := Lib.hid (show (weave (b.take j) l).length + [(⟨yb, yn, ys⟩ : Vl)].length ≤ 1000000 by have := HWL.out; simp only [List.length_cons, List.length_nil]; omega)
                have HL3 := Lib.hid HBA.out.size
                have HA2 := Lib.hid (all_app1 HAL.out HC.out)
                have HRX := Lib.hid (HRSN.out.below ((HB6.out.mono HBV.out.size).alloc (Nat.le_trans HBV.out.size HB6.out.size) (.cells #[.bool yb, .int .i64 yn, .string ys] 42)))
                clear hbw HO5 HB6 HBV HAL
                go_wp2_with (at_builtin; refine wpl_appL rfl _ _ 28 rfl wc.heap.size 42 Tryz.underlying28 Tryz.infVal _ (weave (b.take j) l) rfl HO.out _ _ [(⟨yb, yn, ys⟩ : Vl)] rfl HX2.out HL1.out HL3.out ?_)
                intro v' w' hown' hb' _
                have hbz := HBA.out.trans hb'
                have hrz := HRX.out.below hb'
                go_wp2_with fail
                go_roundw
                case rel => exact ⟨j + 1, k + 1, rfl, rfl, by go_num, hlt3, by rw [HCS.out, HK.out]; rfl, hrz, by rw [HW.out]; exact hown', by rw [HW.out]; exact HA2.out, hbz⟩
                case measure => simp [intOf] <;> omega
              · have hd : ((C : Int) != 0) = true := ine_t (by omega)
                have HE := Lib.hid (HFB.out (j + 1) (⟨yb, yn, ys⟩ : Vl) (by rw [HW.out]; simp) (by rw [HC.out]; exact h0))
                have hB := HBX.out.trans (hbw.mono (Nat.le_trans (Nat.le_succ _) hsz5))
                clear h0 hbw
                go_wp2_with fail
                go_ret2
                exact PlP.mk rfl (RdL.nil _ _) (.inr ⟨rfl, HE.out⟩) hB
          · have HW := Lib.hid (weave_snocT (l := l) HJ.out)
            have HCS := Lib.hid (count_snoc HJ.out)
            have hrsN := hrs.below ((Below.refl wc.heap.size wr).alloc hszr (.cells #[.bool true, .int .i64 0, .string ⟨#[]⟩] 42))
            have HBV := Lib.hid (hbel.alloc hszr (.cells #[.bool true, .int .i64 0, .string ⟨#[]⟩] 42))
            have HO5 := Lib.hid (hown.alloc (.cells #[.bool true, .int .i64 0, .string ⟨#[]⟩] 42))
            have HL5 := Lib.hid (show RdL (wr.alloc (.cells #[.bool true, .int .i64 0, .string ⟨#[]⟩] 42)) (wr.alloc (.cells #[.bool true, .int .i64 0, .string ⟨#[]⟩] 42)).heap.size (.slice (some ⟨wr.heap.size, 0, none⟩) 1 1) [nulV] from RdL.lit1 wr true 0 ⟨#[]⟩ 42)
            clear hrs hown hbel
            go_upto_region 28 with fail
            generalize (wr.alloc (.cells #[.bool true, .int .i64 0, .string ⟨#[]⟩] 42)) = WV at *
            clear q0
            have HRSN := Lib.hid hrsN
            clear hrsN
            obtain ⟨v0, v1, v2, v3⟩ := HV5.out.below HBV.out HV5.out.lt
            obtain ⟨adx, hadx, _, c0, c1, c2⟩ := HL5.out.at (i := 0) (x := nulV) rfl
            obtain rfl := Option.some.inj hadx
            clear hadx
            replace c0 : WV.cell? ⟨wr.heap.size, 0, none⟩ = some (.bool true) := c0
            replace c1 : WV.cell? ⟨wr.heap.size, 1, none⟩ = some (.int .i64 0) := c1
            replace c2 : WV.cell? ⟨wr.heap.size, 2, none⟩ = some (.string ⟨#[]⟩) := c2
            go_wp2_with fail
            (with_reducible refine (rchk_any nm ty sc nu true 0 ⟨#[]⟩ _).mono ?_); rintro e w6 ⟨rfl, hb6⟩
            have HB6 := Lib.hid hb6
            have hbw := HBV.out.trans (hb6.mono HBV.out.size)
            clear v0 v1 v2 v3 c0 c1 c2
            obtain ⟨adx, hadx, _, c0, c1, c2⟩ := (HL5.out.step hb6).at (i := 0) (x := nulV) rfl
            obtain rfl := Option.some.inj hadx
            clear hadx
            replace c0 : w6.cell? ⟨wr.heap.size, 0, none⟩ = some (.bool true) := c0
            replace c1 : w6.cell? ⟨wr.heap.size, 1, none⟩ = some (.int .i64 0) := c1
            replace c2 : w6.cell? ⟨wr.heap.size, 2, none⟩ = some (.string ⟨#[]⟩) := c2
            obtain ⟨C, hC⟩ : ∃ C, chkV ty nu nulV = C := ⟨_, rfl⟩
            have hC' : chk ty nu true 0 ⟨#[]⟩ = C := hC
            rw [hC']
            have HC := Lib.hid hC
            clear hC hC' hb6 HL5
            by_cases h0 : C = 0
            · subst h0
              have HX2 := Lib.hid (RdL.lit w6 [nulV] 1 42 (Nat.le_refl 1) (by decide))
              have HO := Lib.hid ((HO5.out.below HB6.out).alloc (.cells #[.bool true, .int .i64 0, .string ⟨#[]⟩] 42))
              have HBA := Lib.hid (hbw.alloc hbw.size (.cells #[.bool true, .int .i64 0, .string ⟨#[]⟩] 42))
              have HL1 := Lib.hid (show (weave (b.take j) l).length + [nulV].length ≤ 1000000 by have := HWL.out; simp only [List.length_cons, List.length_nil]; omega)
              have HL3 := Lib.hid HBA.out.size
              have HA2 := Lib.hid (all_app1 HAL.out HC.out)
              have HRX := Lib.hid (HRSN.out.below ((HB6.out.mono HBV.out.size).alloc (Nat.le_trans HBV.out.size HB6.out.size) (.cells #[.bool true, .int .i64 0, .string ⟨#[]⟩] 42)))
              clear hbw HO5 HB6 HBV HAL
              go_wp2_with (at_builtin; refine wpl_appL rfl _ _ 28 rfl wc.heap.size 42 Tryz.underlying28 Tryz.infVal _ (weave (b.take j) l) rfl HO.out _ _ [nulV] rfl HX2.out HL1.out HL3.out ?_)
              intro v' w' hown' hb' _
              have hbz := HBA.out.trans hb'
              have hrz := HRX.out.below hb'
              go_wp2_with fail
              go_roundw
              case rel => exact ⟨j + 1, k, rfl, rfl, by go_num, hlt3, by rw [HCS.out, HK.out]; rfl, hrz, by rw [HW.out]; exact hown', by rw [HW.out]; exact HA2.out, hbz⟩
              case measure => simp [intOf] <;> omega
            · have hd : ((C : Int) != 0) = true := ine_t (by omega)
              have HE := Lib.hid (HFB.out (j + 1) nulV (by rw [HW.out]; simp) (by rw [HC.out]; exact h0))
              have hB := HBX.out.trans (hbw.mono (Nat.le_trans (Nat.le_succ _) hsz5))
              clear h0 hbw
              go_wp2_with fail
              go_ret2
              exact PlP.mk rfl (RdL.nil _ _) (.inr ⟨rfl, HE.out⟩) hB
        · have HT := Lib.hid (show b.take j = b from List.take_of_length_le (by omega))
          have hro := hown.read
          have hal := HAL.out
          rw [HT.out] at hro hal
          have HRO := Lib.hid hro
          have HE := Lib.hid (HFG.out hal)
          have hB := HBX.out.trans (hbel.mono (Nat.le_trans (Nat.le_succ _) hsz5))
          clear hro hal hrs hown hbel
          go_wp2
          go_ret2
          exact PlP.mk rfl HRO.out (.inl ⟨rfl, HE.out⟩) hB
    · have HN := Lib.hid (show D.bind (fin ty nu b) = none by rw [hd]; rfl)
      have hB := HB1.out.trans (hbw5.mono (Nat.le_succ _))
      clear hd
      go_wp2
      go_ret2
      exact PlP.mk rfl (RdL.nil _ _) (.inr ⟨rfl, HN.out⟩) hB
end
end Go.Proofs.YtbolbbngncnecaaGreat
