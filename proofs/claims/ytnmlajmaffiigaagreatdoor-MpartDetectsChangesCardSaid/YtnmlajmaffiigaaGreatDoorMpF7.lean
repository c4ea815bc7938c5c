/- A closed fact of MpartDetectsChanges's row, in a text of its own: it takes 10 GB. -/
import Derived.Test.YtnmlajmaffiigaaGreatDoorRows
import Derived.JoinedOf
set_option linter.constructorNameAsVariable false
namespace Go.Proofs.YtnmlajmaffiigaaGreatDoor
open ChangeShapes
theorem jf_mpartDetectsChanges:joinedFacts Tryz.checked.prog 10 Tryz.f10 Rows.mpartDetectsChangesSpec Rows.mpartDetectsChangesRow=true:=by kernel_rfl
end Go.Proofs.YtnmlajmaffiigaaGreatDoor
