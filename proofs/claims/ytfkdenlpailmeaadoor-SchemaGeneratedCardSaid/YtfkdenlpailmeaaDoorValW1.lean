/- The walks over package value's Check and the reference's. -/
import Derived.Test.YtfkdenlpailmeaaDoorVal
namespace Go.Proofs.YtfkdenlpailmeaaDoor
open Go.RowKit Go.VB Go.VL
set_option maxRecDepth 100000 in
set_option maxHeartbeats 1000000 in
theorem rtyped_any (ty : Int) (w : World) : Calls Tryd.prog 45 #[.int .i64 ty] w (Ret (.bool (okT ty)) w) := by
  unfold okT
  by_cases h1 : 1 ≤ ty
  · by_cases h2 : ty ≤ 5
    · rw [decide_eq_true ⟨h1, h2⟩]
      go_enter Tryd.func45, Tryd.ntmps45
      go_wp2
      go_ret
      exact Ret.mk rfl
    · rw [decide_eq_false (fun h => h2 h.2)]
      go_enter Tryd.func45, Tryd.ntmps45
      go_wp2
      go_ret
      exact Ret.mk rfl
  · rw [decide_eq_false (fun h => h1 h.1)]
    go_enter Tryd.func45, Tryd.ntmps45
    go_wp2
    go_ret
    exact Ret.mk rfl
end Go.Proofs.YtfkdenlpailmeaaDoor
