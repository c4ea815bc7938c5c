/- The walks over package zone's null, onlyPresent, lesser, greater and the reference's null and pick. -/
import Derived.Test.YthohmngckpjlbaaZoV
import Derived.Test.YthohmngckpjlbaaValW4
import Derived.Deep.RegionWith
namespace Go.Proofs.Ythohmngckpjlbaa
open Go.RowKit Go.VB Go.VL Go.VS Go.ZN
set_option maxRecDepth 100000 in
set_option maxHeartbeats 400000 in
theorem znull_any (w : World) : Calls Try.prog 26 #[] w (RetB (.agg #[.bool true, .int .i64 0, .string ⟨#[]⟩]) w) := by
  have hb : Below w.heap.size w (w.alloc (.cells #[.bool true, .int .i64 0, .string ⟨#[]⟩] 23)) := (Below.refl _ _).alloc (Nat.le_refl _) _
  go_enter Try.func26, Try.ntmps26
  go_wp2
  refine bodyPost_ret (v := (.agg #[.bool true, .int .i64 0, .string ⟨#[]⟩])) (by simp [results, Try.results26, go_sem]) rfl ?_
  exact RetB.mk rfl hb
set_option maxRecDepth 100000 in
set_option maxHeartbeats 400000 in
theorem rznull_any (w : World) : Calls Try.prog 32 #[] w (RetB (.agg #[.bool true, .int .i64 0, .string ⟨#[]⟩]) w) := by
  have hb : Below w.heap.size w (w.alloc (.cells #[.bool true, .int .i64 0, .string ⟨#[]⟩] 23)) := (Below.refl _ _).alloc (Nat.le_refl _) _
  go_enter Try.func32, Try.ntmps32
  go_wp2
  refine bodyPost_ret (v := (.agg #[.bool true, .int .i64 0, .string ⟨#[]⟩])) (by simp [results, Try.results32, go_sem]) rfl ?_
  exact RetB.mk rfl hb
set_option maxRecDepth 100000 in
set_option maxHeartbeats 1000000 in
theorem only_v (n : Int) (s : ByteArray) (y : Bool) (m : Int) (t : ByteArray) (w : World) : Calls Try.prog 48 #[(.agg #[.bool false, .int .i64 n, .string s]), (.agg #[.bool y, .int .i64 m, .string t])] w (RetB (.agg #[.bool false, .int .i64 n, .string s]) w) := by
  go_enter Try.func48, Try.ntmps48
  go_wp2
  refine bodyPost_ret (v := (.agg #[.bool false, .int .i64 n, .string s])) (by simp [results, Try.results48, go_sem]) rfl ?_
  exact RetB.mk rfl (by go_grown)
set_option maxRecDepth 100000 in
set_option maxHeartbeats 1000000 in
theorem only_n (n : Int) (s : ByteArray) (m : Int) (t : ByteArray) (w : World) : Calls Try.prog 48 #[(.agg #[.bool true, .int .i64 n, .string s]), (.agg #[.bool false, .int .i64 m, .string t])] w (RetB (.agg #[.bool false, .int .i64 m, .string t]) w) := by
  go_enter Try.func48, Try.ntmps48
  go_wp2
  refine bodyPost_ret (v := (.agg #[.bool false, .int .i64 m, .string t])) (by simp [results, Try.results48, go_sem]) rfl ?_
  exact RetB.mk rfl (by go_grown)
set_option maxRecDepth 100000 in
set_option maxHeartbeats 1000000 in
theorem only_nn (n : Int) (s : ByteArray) (m : Int) (t : ByteArray) (w : World) : Calls Try.prog 48 #[(.agg #[.bool true, .int .i64 n, .string s]), (.agg #[.bool true, .int .i64 m, .string t])] w (RetB (.agg #[.bool true, .int .i64 0, .string ⟨#[]⟩]) w) := by
  have H := fun w => Lib.hid (znull_any w)
  go_enter Try.func48, Try.ntmps48
  go_wp2_with fail
  (with_reducible refine (H _).out.mono ?_); rintro e w1 ⟨rfl, hb⟩
  have hV := var3_at (n := w.heap.size + 1 + 1) (by simp) hb
  have hB := bel_trans (show Below w.heap.size w _ from by go_grown) hb
  obtain ⟨k0, k1, k2, g0, g1, g2⟩ := id hV
  go_wp2
  obtain ⟨m0, m1, m2, _, _, _⟩ := hV.set (.bool true) (.int .i64 0) (.string ⟨#[]⟩)
  refine bodyPost_ret (v := (.agg #[.bool true, .int .i64 0, .string ⟨#[]⟩])) (by simp [results, Try.results48, go_sem, m0, m1, m2]) rfl ?_
  exact RetB.mk rfl (set3_below hB (by omega) _ _ _)
theorem only_any (x : Bool) (n : Int) (s : ByteArray) (y : Bool) (m : Int) (t : ByteArray) (ty sg : Int) (w : World) (h : x = true ∨ y = true) :
    Calls Try.prog 48 #[(.agg #[.bool x, .int .i64 n, .string s]), (.agg #[.bool y, .int .i64 m, .string t])] w (RetB (pck ty sg ⟨x, n, s⟩ ⟨y, m, t⟩).val w) := by
  cases x with
  | false =>
    cases y with
    | false => rcases h with h | h <;> cases h
    | true => rw [pck_vn rfl rfl]; exact only_v n s true m t w
  | true =>
    cases y with
    | false => rw [pck_n rfl rfl]; exact only_n n s m t w
    | true => rw [pck_nn rfl rfl]; exact only_nn n s m t w
set_option maxRecDepth 100000 in
set_option maxHeartbeats 1000000 in
theorem lesser_nul (ty : Int) (x : Bool) (n : Int) (s : ByteArray) (y : Bool) (m : Int) (t : ByteArray) (w : World) (h : x = true ∨ y = true) :
    Calls Try.prog 27 #[.int .i64 ty, (.agg #[.bool x, .int .i64 n, .string s]), (.agg #[.bool y, .int .i64 m, .string t])] w (RetB (pck ty (-1) ⟨x, n, s⟩ ⟨y, m, t⟩).val w) := by
  have H := fun w => Lib.hid (only_any x n s y m t ty (-1) w h)
  generalize pck ty (-1) ⟨x, n, s⟩ ⟨y, m, t⟩ = R at *
  obtain ⟨r1, r2, r3⟩ := R
  simp only [Vl.val] at H ⊢
  have hx : (x = true) ∨ (x = false ∧ y = true) := by
    cases x
    · right; rcases h with h | h
      · cases h
      · exact ⟨rfl, h⟩
    · left; rfl
  rcases hx with rfl | ⟨rfl, rfl⟩
  all_goals
    go_enter Try.func27, Try.ntmps27
    go_wp2_with fail
    (with_reducible refine (H _).out.mono ?_); rintro e w1 ⟨rfl, hb⟩
    have hV := var3_at (n := w.heap.size + 1 + 1) (by simp) hb
    have hB := bel_trans (show Below w.heap.size w _ from by go_grown) hb
    obtain ⟨k0, k1, k2, g0, g1, g2⟩ := id hV
    go_wp2
    obtain ⟨m0, m1, m2, _, _, _⟩ := hV.set (.bool r1) (.int .i64 r2) (.string r3)
    refine bodyPost_ret (v := (.agg #[.bool r1, .int .i64 r2, .string r3])) (by simp [results, Try.results27, go_sem, m0, m1, m2]) rfl ?_
    exact RetB.mk rfl (set3_below hB (by omega) _ _ _)
set_option maxRecDepth 100000 in
set_option maxHeartbeats 1000000 in
theorem lesser_val (ty : Int) (n : Int) (s : ByteArray) (m : Int) (t : ByteArray) (w : World) :
    Calls Try.prog 27 #[.int .i64 ty, (.agg #[.bool false, .int .i64 n, .string s]), (.agg #[.bool false, .int .i64 m, .string t])] w (RetB (pck ty (-1) ⟨false, n, s⟩ ⟨false, m, t⟩).val w) := by
  have H := fun w => Lib.hid (cmp_any ty false m t false n s w)
  have hp : pck ty (-1) ⟨false, n, s⟩ ⟨false, m, t⟩ = if cmp ty false m t false n s = (-1) then ⟨false, m, t⟩ else ⟨false, n, s⟩ := rfl
  rw [hp]; clear hp
  have hbd := cmp_bd ty false m t false n s
  generalize cmp ty false m t false n s = c at *
  by_cases hc : c = (-1)
  · rw [if_pos hc]
    have hd : decide (c <0) = true := decide_eq_true (by omega)
    clear hc hbd
    simp only [Vl.val]
    go_enter Try.func27, Try.ntmps27
    go_wp2_with fail
    (with_reducible refine (H _).out.mono ?_); rintro e w1 ⟨rfl, hb⟩
    have hW := var3_at (n := w.heap.size + 1 + 1) (by simp) hb
    have hX := (Var3.new (w.alloc (.cells #[.bool false, .int .i64 n, .string s] 23)) (.bool false) (.int .i64 m) (.string t) 23).step ((Below.refl _ _).alloc (Nat.le_refl _) (.cells #[.bool false, .int .i64 0, .string ⟨#[]⟩] 23)) |>.step hb
    rw [show (w.alloc (.cells #[.bool false, .int .i64 n, .string s] 23)).heap.size = w.heap.size + 1 from by simp] at hX
    have hB := bel_trans (show Below w.heap.size w _ from by go_grown) hb
    obtain ⟨k0, k1, k2, g0, g1, g2⟩ := id hW
    obtain ⟨j0, j1, j2, _, _, _⟩ := hX
    go_wp2
    obtain ⟨m0, m1, m2, _, _, _⟩ := hW.set (.bool false) (.int .i64 m) (.string t)
    refine bodyPost_ret (v := (.agg #[.bool false, .int .i64 m, .string t])) (by simp [results, Try.results27, go_sem, m0, m1, m2]) rfl ?_
    exact RetB.mk rfl (set3_below hB (by omega) _ _ _)
  · rw [if_neg hc]
    have hd : decide (c <0) = false := decide_eq_false (by omega)
    clear hc hbd
    simp only [Vl.val]
    go_enter Try.func27, Try.ntmps27
    go_wp2_with fail
    (with_reducible refine (H _).out.mono ?_); rintro e w1 ⟨rfl, hb⟩
    have hW := var3_at (n := w.heap.size + 1 + 1) (by simp) hb
    have hX := (Var3.new w (.bool false) (.int .i64 n) (.string s) 23).step ((Below.refl _ _).alloc (Nat.le_refl _) (.cells #[.bool false, .int .i64 m, .string t] 23)) |>.step ((Below.refl _ _).alloc (Nat.le_refl _) (.cells #[.bool false, .int .i64 0, .string ⟨#[]⟩] 23)) |>.step hb
    have hB := bel_trans (show Below w.heap.size w _ from by go_grown) hb
    obtain ⟨k0, k1, k2, g0, g1, g2⟩ := id hW
    obtain ⟨j0, j1, j2, _, _, _⟩ := hX
    go_wp2
    obtain ⟨m0, m1, m2, _, _, _⟩ := hW.set (.bool false) (.int .i64 n) (.string s)
    refine bodyPost_ret (v := (.agg #[.bool false, .int .i64 n, .string s])) (by simp [results, Try.results27, go_sem, m0, m1, m2]) rfl ?_
    exact RetB.mk rfl (set3_below hB (by omega) _ _ _)
theorem lesser_any (ty : Int) (x : Bool) (n : Int) (s : ByteArray) (y : Bool) (m : Int) (t : ByteArray) (w : World) :
    Calls Try.prog 27 #[.int .i64 ty, (.agg #[.bool x, .int .i64 n, .string s]), (.agg #[.bool y, .int .i64 m, .string t])] w (RetB (pck ty (-1) ⟨x, n, s⟩ ⟨y, m, t⟩).val w) := by
  cases x with
  | false =>
    cases y with
    | false => exact lesser_val ty n s m t w
    | true => exact lesser_nul ty false n s true m t w (.inr rfl)
  | true => exact lesser_nul ty true n s y m t w (.inl rfl)
set_option maxRecDepth 100000 in
set_option maxHeartbeats 1000000 in
theorem greater_nul (ty : Int) (x : Bool) (n : Int) (s : ByteArray) (y : Bool) (m : Int) (t : ByteArray) (w : World) (h : x = true ∨ y = true) :
    Calls Try.prog 28 #[.int .i64 ty, (.agg #[.bool x, .int .i64 n, .string s]), (.agg #[.bool y, .int .i64 m, .string t])] w (RetB (pck ty (1) ⟨x, n, s⟩ ⟨y, m, t⟩).val w) := by
  have H := fun w => Lib.hid (only_any x n s y m t ty (1) w h)
  generalize pck ty (1) ⟨x, n, s⟩ ⟨y, m, t⟩ = R at *
  obtain ⟨r1, r2, r3⟩ := R
  simp only [Vl.val] at H ⊢
  have hx : (x = true) ∨ (x = false ∧ y = true) := by
    cases x
    · right; rcases h with h | h
      · cases h
      · exact ⟨rfl, h⟩
    · left; rfl
  rcases hx with rfl | ⟨rfl, rfl⟩
  all_goals
    go_enter Try.func28, Try.ntmps28
    go_wp2_with fail
    (with_reducible refine (H _).out.mono ?_); rintro e w1 ⟨rfl, hb⟩
    have hV := var3_at (n := w.heap.size + 1 + 1) (by simp) hb
    have hB := bel_trans (show Below w.heap.size w _ from by go_grown) hb
    obtain ⟨k0, k1, k2, g0, g1, g2⟩ := id hV
    go_wp2
    obtain ⟨m0, m1, m2, _, _, _⟩ := hV.set (.bool r1) (.int .i64 r2) (.string r3)
    refine bodyPost_ret (v := (.agg #[.bool r1, .int .i64 r2, .string r3])) (by simp [results, Try.results28, go_sem, m0, m1, m2]) rfl ?_
    exact RetB.mk rfl (set3_below hB (by omega) _ _ _)
set_option maxRecDepth 100000 in
set_option maxHeartbeats 1000000 in
theorem greater_val (ty : Int) (n : Int) (s : ByteArray) (m : Int) (t : ByteArray) (w : World) :
    Calls Try.prog 28 #[.int .i64 ty, (.agg #[.bool false, .int .i64 n, .string s]), (.agg #[.bool false, .int .i64 m, .string t])] w (RetB (pck ty (1) ⟨false, n, s⟩ ⟨false, m, t⟩).val w) := by
  have H := fun w => Lib.hid (cmp_any ty false m t false n s w)
  have hp : pck ty (1) ⟨false, n, s⟩ ⟨false, m, t⟩ = if cmp ty false m t false n s = (1) then ⟨false, m, t⟩ else ⟨false, n, s⟩ := rfl
  rw [hp]; clear hp
  have hbd := cmp_bd ty false m t false n s
  generalize cmp ty false m t false n s = c at *
  by_cases hc : c = (1)
  · rw [if_pos hc]
    have hd : decide (c >0) = true := decide_eq_true (by omega)
    clear hc hbd
    simp only [Vl.val]
    go_enter Try.func28, Try.ntmps28
    go_wp2_with fail
    (with_reducible refine (H _).out.mono ?_); rintro e w1 ⟨rfl, hb⟩
    have hW := var3_at (n := w.heap.size + 1 + 1) (by simp) hb
    have hX := (Var3.new (w.alloc (.cells #[.bool false, .int .i64 n, .string s] 23)) (.bool false) (.int .i64 m) (.string t) 23).step ((Below.refl _ _).alloc (Nat.le_refl _) (.cells #[.bool false, .int .i64 0, .string ⟨#[]⟩] 23)) |>.step hb
    rw [show (w.alloc (.cells #[.bool false, .int .i64 n, .string s] 23)).heap.size = w.heap.size + 1 from by simp] at hX
    have hB := bel_trans (show Below w.heap.size w _ from by go_grown) hb
    obtain ⟨k0, k1, k2, g0, g1, g2⟩ := id hW
    obtain ⟨j0, j1, j2, _, _, _⟩ := hX
    go_wp2
    obtain ⟨m0, m1, m2, _, _, _⟩ := hW.set (.bool false) (.int .i64 m) (.string t)
    refine bodyPost_ret (v := (.agg #[.bool false, .int .i64 m, .string t])) (by simp [results, Try.results28, go_sem, m0, m1, m2]) rfl ?_
    exact RetB.mk rfl (set3_below hB (by omega) _ _ _)
  · rw [if_neg hc]
    have hd : decide (c >0) = false := decide_eq_false (by omega)
    clear hc hbd
    simp only [Vl.val]
    go_enter Try.func28, Try.ntmps28
    go_wp2_with fail
    (with_reducible refine (H _).out.mono ?_); rintro e w1 ⟨rfl, hb⟩
    have hW := var3_at (n := w.heap.size + 1 + 1) (by simp) hb
    have hX := (Var3.new w (.bool false) (.int .i64 n) (.string s) 23).step ((Below.refl _ _).alloc (Nat.le_refl _) (.cells #[.bool false, .int .i64 m, .string t] 23)) |>.step ((Below.refl _ _).alloc (Nat.le_refl _) (.cells #[.bool false, .int .i64 0, .string ⟨#[]⟩] 23)) |>.step hb
    have hB := bel_trans (show Below w.heap.size w _ from by go_grown) hb
    obtain ⟨k0, k1, k2, g0, g1, g2⟩ := id hW
    obtain ⟨j0, j1, j2, _, _, _⟩ := hX
    go_wp2
    obtain ⟨m0, m1, m2, _, _, _⟩ := hW.set (.bool false) (.int .i64 n) (.string s)
    refine bodyPost_ret (v := (.agg #[.bool false, .int .i64 n, .string s])) (by simp [results, Try.results28, go_sem, m0, m1, m2]) rfl ?_
    exact RetB.mk rfl (set3_below hB (by omega) _ _ _)
theorem greater_any (ty : Int) (x : Bool) (n : Int) (s : ByteArray) (y : Bool) (m : Int) (t : ByteArray) (w : World) :
    Calls Try.prog 28 #[.int .i64 ty, (.agg #[.bool x, .int .i64 n, .string s]), (.agg #[.bool y, .int .i64 m, .string t])] w (RetB (pck ty (1) ⟨x, n, s⟩ ⟨y, m, t⟩).val w) := by
  cases x with
  | false =>
    cases y with
    | false => exact greater_val ty n s m t w
    | true => exact greater_nul ty false n s true m t w (.inr rfl)
  | true => exact greater_nul ty true n s y m t w (.inl rfl)
end Go.Proofs.Ythohmngckpjlbaa
