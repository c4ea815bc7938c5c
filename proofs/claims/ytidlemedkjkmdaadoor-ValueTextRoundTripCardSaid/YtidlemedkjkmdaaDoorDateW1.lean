/- The walks over package date and its reference: leap years, months, the days before a year, the number of a day. -/
import Derived.Test.YtidlemedkjkmdaaDoorDate
import Derived.Test.YtidlemedkjkmdaaDoorKit
namespace Go.DT
theorem tm0 (y k : Int) : y.tmod k = 0 ↔ y % k = 0 :=
  ⟨fun h => Int.emod_eq_zero_of_dvd (Int.dvd_of_tmod_eq_zero h), fun h => Int.tmod_eq_zero_of_dvd (Int.dvd_of_emod_eq_zero h)⟩
theorem leap_a {y : Int} (h4 : y.tmod 4 = 0) (h100 : y.tmod 100 = 0) : (y.tmod 400 == 0) = lp y := by
  rw [tm0] at h4 h100
  rw [Bool.eq_iff_iff, beq_iff_eq, tm0, lp, decide_eq_true_iff]
  unfold leapP; omega
theorem leap_b {y : Int} (h4 : y.tmod 4 = 0) (h100 : ¬ y.tmod 100 = 0) : true = lp y := by
  rw [tm0] at h4 h100
  exact (lp_true (.inl ⟨h4, h100⟩)).symm
theorem leap_c {y : Int} (h4 : ¬ y.tmod 4 = 0) : (y.tmod 400 == 0) = lp y := by
  rw [tm0] at h4
  rw [Bool.eq_iff_iff, beq_iff_eq, tm0, lp, decide_eq_true_iff]
  unfold leapP; omega
theorem dim_2 {y : Int} : dim y 2 = if lp y then 29 else 28 := rfl
theorem dim_other {y m : Int} (h2 : m ≠ 2) (h4 : m ≠ 4) (h6 : m ≠ 6) (h9 : m ≠ 9) (h11 : m ≠ 11) : dim y m = 31 := by
  unfold dim dimB; rw [if_neg h2, if_neg (by omega)]
end Go.DT
namespace Go.Proofs.YtidlemedkjkmdaaDoor
open Go.RowKit Go.VB Go.DT
set_option maxRecDepth 100000 in
set_option maxHeartbeats 1000000 in
theorem leap_any (y : Int) (w : World) : Calls Tryd.prog 72 #[.int .i64 y] w (Ret (.bool (lp y)) w) := by
  go_enter Tryd.func72, Tryd.ntmps72
  go_wp2
  · go_ret
    exact Ret.mk (congrArg Value.bool (leap_a (by assumption) (by assumption)))
  · go_ret
    exact Ret.mk (congrArg Value.bool (leap_b (by assumption) (by assumption)))
  · go_ret
    exact Ret.mk (congrArg Value.bool (leap_c (by assumption)))
set_option maxRecDepth 100000 in
set_option maxHeartbeats 1000000 in
theorem rleap_any (y : Int) (w : World) : Calls Tryd.prog 78 #[.int .i64 y] w (Ret (.bool (lp y)) w) := by
  go_enter Tryd.func78, Tryd.ntmps78
  go_wp2
  · go_ret
    exact Ret.mk (congrArg Value.bool (leap_a (by assumption) (by assumption)))
  · go_ret
    exact Ret.mk (congrArg Value.bool (leap_b (by assumption) (by assumption)))
  · go_ret
    exact Ret.mk (congrArg Value.bool (leap_c (by assumption)))
set_option maxRecDepth 100000 in
set_option maxHeartbeats 1000000 in
theorem dim_any (y m : Int) (w : World) : Calls Tryd.prog 57 #[.int .i64 y, .int .i64 m] w (Ret (.int .i64 (dim y m)) w) := by
  by_cases hm2 : m = 2
  · subst hm2
    have hl := leap_any y w
    rw [dim_2]
    generalize lp y = b at hl ⊢
    cases b
    · go_enter Tryd.func57, Tryd.ntmps57
      go_wp2_with (go_at_call 72; refine hl.mono ?_; rintro e w' ⟨rfl, rfl⟩)
      go_ret
      exact Ret.mk rfl
    · go_enter Tryd.func57, Tryd.ntmps57
      go_wp2_with (go_at_call 72; refine hl.mono ?_; rintro e w' ⟨rfl, rfl⟩)
      go_ret
      exact Ret.mk rfl
  by_cases hm4 : m = 4
  · subst hm4
    go_enter Tryd.func57, Tryd.ntmps57
    go_wp2
    go_ret
    exact Ret.mk rfl
  by_cases hm6 : m = 6
  · subst hm6
    go_enter Tryd.func57, Tryd.ntmps57
    go_wp2
    go_ret
    exact Ret.mk rfl
  by_cases hm9 : m = 9
  · subst hm9
    go_enter Tryd.func57, Tryd.ntmps57
    go_wp2
    go_ret
    exact Ret.mk rfl
  by_cases hm11 : m = 11
  · subst hm11
    go_enter Tryd.func57, Tryd.ntmps57
    go_wp2
    go_ret
    exact Ret.mk rfl
  have hd := dim_other (y := y) hm2 hm4 hm6 hm9 hm11
  rw [hd]; clear hd
  have e2 : (m == 2) = false := beq_eq_false_iff_ne.2 hm2
  have e4 : (m == 4) = false := beq_eq_false_iff_ne.2 hm4
  have e6 : (m == 6) = false := beq_eq_false_iff_ne.2 hm6
  have e9 : (m == 9) = false := beq_eq_false_iff_ne.2 hm9
  have e11 : (m == 11) = false := beq_eq_false_iff_ne.2 hm11
  go_enter Tryd.func57, Tryd.ntmps57
  go_wp2
  go_ret
  exact Ret.mk rfl
set_option maxRecDepth 100000 in
set_option maxHeartbeats 1000000 in
theorem rdim_any (y m : Int) (w : World) : Calls Tryd.prog 63 #[.int .i64 y, .int .i64 m] w (Ret (.int .i64 (dim y m)) w) := by
  by_cases hm2 : m = 2
  · subst hm2
    have hl := rleap_any y w
    rw [dim_2]
    generalize lp y = b at hl ⊢
    cases b
    · go_enter Tryd.func63, Tryd.ntmps63
      go_wp2_with (go_at_call 78; refine hl.mono ?_; rintro e w' ⟨rfl, rfl⟩)
      go_ret
      exact Ret.mk rfl
    · go_enter Tryd.func63, Tryd.ntmps63
      go_wp2_with (go_at_call 78; refine hl.mono ?_; rintro e w' ⟨rfl, rfl⟩)
      go_ret
      exact Ret.mk rfl
  by_cases hm4 : m = 4
  · subst hm4
    go_enter Tryd.func63, Tryd.ntmps63
    go_wp2
    go_ret
    exact Ret.mk rfl
  by_cases hm6 : m = 6
  · subst hm6
    go_enter Tryd.func63, Tryd.ntmps63
    go_wp2
    go_ret
    exact Ret.mk rfl
  by_cases hm9 : m = 9
  · subst hm9
    go_enter Tryd.func63, Tryd.ntmps63
    go_wp2
    go_ret
    exact Ret.mk rfl
  by_cases hm11 : m = 11
  · subst hm11
    go_enter Tryd.func63, Tryd.ntmps63
    go_wp2
    go_ret
    exact Ret.mk rfl
  have hd := dim_other (y := y) hm2 hm4 hm6 hm9 hm11
  rw [hd]; clear hd
  have e2 : (m == 2) = false := beq_eq_false_iff_ne.2 hm2
  have e4 : (m == 4) = false := beq_eq_false_iff_ne.2 hm4
  have e6 : (m == 6) = false := beq_eq_false_iff_ne.2 hm6
  have e9 : (m == 9) = false := beq_eq_false_iff_ne.2 hm9
  have e11 : (m == 11) = false := beq_eq_false_iff_ne.2 hm11
  go_enter Tryd.func63, Tryd.ntmps63
  go_wp2
  go_ret
  exact Ret.mk rfl
set_option maxRecDepth 100000 in
set_option maxHeartbeats 1000000 in
theorem dby_any (y : Int) (w : World) (h1 : 1 ≤ y) (h2 : y ≤ 20000) : Calls Tryd.prog 56 #[.int .i64 y] w (Ret (.int .i64 (dby y)) w) := by
  go_enter Tryd.func56, Tryd.ntmps56
  go_wp2
  go_ret
  exact Ret.mk (vint (by unfold dby; omega))
set_option maxRecDepth 100000 in
set_option maxHeartbeats 1000000 in
theorem jan_any (y : Int) (w : World) (h1 : 1 ≤ y) (h2 : y ≤ 20000) : Calls Tryd.prog 62 #[.int .i64 y] w (Ret (.int .i64 (-719162 + dby y)) w) := by
  go_enter Tryd.func62, Tryd.ntmps62
  go_wp2
  go_ret
  exact Ret.mk (vint (by unfold dby; omega))
end Go.Proofs.YtidlemedkjkmdaaDoor
