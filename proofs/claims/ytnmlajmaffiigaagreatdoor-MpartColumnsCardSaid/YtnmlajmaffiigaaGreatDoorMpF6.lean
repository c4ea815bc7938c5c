/- A closed fact of MpartColumns's row, in a text of its own: it takes 10 GB. -/
import Derived.Test.YtnmlajmaffiigaaGreatDoorRows
import Derived.JoinedOf
set_option linter.constructorNameAsVariable false
namespace Go.Proofs.YtnmlajmaffiigaaGreatDoor
open ChangeShapes
theorem jf_mpartColumns:joinedFacts Tryz.checked.prog 9 Tryz.f9 Rows.mpartColumnsSpec Rows.mpartColumnsRow=true:=by kernel_rfl
end Go.Proofs.YtnmlajmaffiigaaGreatDoor
