/- A closed fact of MpartSchemas's row, in a text of its own: it takes 10 GB. -/
import Derived.Test.YtnmlajmaffiigaaGreatDoorRows
import Derived.JoinedOf
set_option linter.constructorNameAsVariable false
namespace Go.Proofs.YtnmlajmaffiigaaGreatDoor
open ChangeShapes
theorem jf_mpartSchemas:joinedFacts Tryz.checked.prog 12 Tryz.f12 Rows.mpartSchemasSpec Rows.mpartSchemasRow=true:=by kernel_rfl
end Go.Proofs.YtnmlajmaffiigaaGreatDoor
