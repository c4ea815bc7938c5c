/- The walk over the reference's Check. -/
import Derived.Test.YtfkdenlpailmeaaDoorValW2
namespace Go.VL
theorem okT_five {ty : Int} (h : okT ty = true) : ty = 1 ∨ ty = 2 ∨ ty = 3 ∨ ty = 4 ∨ ty = 5 := by
  have := of_decide_eq_true h; omega
end Go.VL
namespace Go.Proofs.YtfkdenlpailmeaaDoor
open Go.RowKit Go.VB Go.VL
end Go.Proofs.YtfkdenlpailmeaaDoor
