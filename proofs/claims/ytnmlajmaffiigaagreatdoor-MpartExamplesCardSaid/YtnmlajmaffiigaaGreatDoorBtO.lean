/- Columns and values that come in as arguments. -/
import Derived.Test.YtnmlajmaffiigaaGreatDoorGw
import Derived.Test.YtnmlajmaffiigaaGreatDoorGb
set_option maxRecDepth 100000
set_option linter.constructorNameAsVariable false
namespace Go.Proofs.YtnmlajmaffiigaaGreatDoor
open Go.RowKit Go.VB Go.VL Go.ChangeShapes Go.WideShapes Go.ChangeAt
theorem Tryz.own : ownKnob Tryz.prog.godebug = none := by kernel_rfl
theorem Tryz.laidOut : laidOutB Tryz.prog = true := by kernel_rfl
section
variable {H : Type} {enc : TypeId × Value → H}
end

end Go.Proofs.YtnmlajmaffiigaaGreatDoor

namespace Go.RS
open Go.RowKit Go.VB Go.VS Go.MK
end Go.RS
namespace Go.Proofs.YtnmlajmaffiigaaGreatDoor
open Go.RowKit Go.VB Go.VS Go.MK Go.RS Go.ChangeShapes Go.WideShapes Go.ChangeAt Go.Deep
set_option linter.constructorNameAsVariable false
section
variable {H : Type} {enc : TypeId × Value → H}
end
end Go.Proofs.YtnmlajmaffiigaaGreatDoor
