/- The walks over package value's Check and the reference's. -/
import Derived.Test.YtjbkeipagdmlpaaVal
namespace Go.Proofs.Ytjbkeipagdmlpaa
open Go.RowKit Go.VB Go.VL
set_option maxRecDepth 100000 in
set_option maxHeartbeats 1000000 in
theorem isType_any (ty : Int) (w : World) : Calls Try.prog 71 #[.int .i64 ty] w (Ret (.bool (okT ty)) w) := by
  by_cases h : 1 ≤ ty ∧ ty ≤ 5
  · have hv : okT ty = true := decide_eq_true h
    rw [hv]; clear hv
    have h5 : ty = 1 ∨ ty = 2 ∨ ty = 3 ∨ ty = 4 ∨ ty = 5 := by omega
    clear h
    rcases h5 with rfl | rfl | rfl | rfl | rfl
    all_goals
      go_enter Try.func71, Try.ntmps71
      go_wp2
      go_ret
      exact Ret.mk rfl
  · have hv : okT ty = false := decide_eq_false h
    rw [hv]; clear hv
    have e1 : (ty == 1) = false := ieq_f (by omega)
    have e2 : (ty == 2) = false := ieq_f (by omega)
    have e3 : (ty == 3) = false := ieq_f (by omega)
    have e4 : (ty == 4) = false := ieq_f (by omega)
    have e5 : (ty == 5) = false := ieq_f (by omega)
    clear h
    go_enter Try.func71, Try.ntmps71
    go_wp2
    go_ret
    exact Ret.mk rfl
set_option maxRecDepth 100000 in
set_option maxHeartbeats 1000000 in
theorem rtyped_any (ty : Int) (w : World) : Calls Try.prog 60 #[.int .i64 ty] w (Ret (.bool (okT ty)) w) := by
  unfold okT
  by_cases h1 : 1 ≤ ty
  · by_cases h2 : ty ≤ 5
    · rw [decide_eq_true ⟨h1, h2⟩]
      go_enter Try.func60, Try.ntmps60
      go_wp2
      go_ret
      exact Ret.mk rfl
    · rw [decide_eq_false (fun h => h2 h.2)]
      go_enter Try.func60, Try.ntmps60
      go_wp2
      go_ret
      exact Ret.mk rfl
  · rw [decide_eq_false (fun h => h1 h.1)]
    go_enter Try.func60, Try.ntmps60
    go_wp2
    go_ret
    exact Ret.mk rfl
set_option maxRecDepth 100000 in
set_option maxHeartbeats 1000000 in
theorem isPerm_any (ty : Int) (nul : Bool) (n : Int) (s : ByteArray) (w : World) : Calls Try.prog 72 #[.int .i64 ty, (.agg #[.bool nul, .int .i64 n, .string s])] w (RetB (.bool (okP ty n s)) w) := by
  by_cases h2 : ty = 2
  · subst h2
    by_cases h0 : n = 0
    · subst h0
      go_enter Try.func72, Try.ntmps72
      go_wp2
      go_ret
      exact RetB.mk rfl (by go_grown)
    · by_cases h1 : n = 1
      · subst h1
        go_enter Try.func72, Try.ntmps72
        go_wp2
        go_ret
        exact RetB.mk rfl (by go_grown)
      · have hv : okP 2 n s = false := decide_eq_false (by omega)
        rw [hv]
        have e0 := ieq_f h0
        have e1 := ieq_f h1
        clear hv h0 h1
        go_enter Try.func72, Try.ntmps72
        go_wp2
        go_ret
        exact RetB.mk rfl (by go_grown)
  · have e2 := ieq_f h2
    by_cases h3 : ty = 3
    · subst h3
      have hv : okP 3 n s = decide (s.size ≤ 64) := rfl
      rw [hv]; clear hv
      go_enter Try.func72, Try.ntmps72
      go_wp2
      go_ret
      exact RetB.mk (by simp; omega) (by go_grown)
    · have e3 := ieq_f h3
      by_cases h4 : ty = 4
      · subst h4
        have hv : okP 4 n s = decide (-719162 ≤ n ∧ n ≤ 2932896) := rfl
        rw [hv]; clear hv h2 h3 e2 e3
        by_cases g1 : -719162 ≤ n
        · go_enter Try.func72, Try.ntmps72
          go_wp2
          go_ret
          exact RetB.mk (by simp [g1]) (by go_grown)
        · rw [decide_eq_false (fun h => g1 h.1)]
          go_enter Try.func72, Try.ntmps72
          go_wp2
          go_ret
          exact RetB.mk rfl (by go_grown)
      · have e4 := ieq_f h4
        by_cases h5 : ty = 5
        · subst h5
          have hv : okP 5 n s = decide (-999999999999999999 ≤ n ∧ n ≤ 999999999999999999) := rfl
          rw [hv]; clear hv h2 h3 h4 e2 e3 e4
          by_cases g1 : -999999999999999999 ≤ n
          · go_enter Try.func72, Try.ntmps72
            go_wp2
            go_ret
            exact RetB.mk (by simp [g1]) (by go_grown)
          · rw [decide_eq_false (fun h => g1 h.1)]
            go_enter Try.func72, Try.ntmps72
            go_wp2
            go_ret
            exact RetB.mk rfl (by go_grown)
        · have e5 := ieq_f h5
          have hv : okP ty n s = true := by unfold okP; rw [if_neg h2, if_neg h3, if_neg h4, if_neg h5]
          rw [hv]; clear hv h2 h3 h4 h5
          go_enter Try.func72, Try.ntmps72
          go_wp2
          go_ret
          exact RetB.mk rfl (by go_grown)
end Go.Proofs.Ytjbkeipagdmlpaa
