/- Closed facts of MpartSchemas's card. -/
import Derived.Test.YtnmlajmaffiigaaGreatDoorRows
import Derived.JoinedOf
import Derived.Test.YtnmlajmaffiigaaGreatDoorLaid
set_option linter.constructorNameAsVariable false
namespace Go.Proofs.YtnmlajmaffiigaaGreatDoor
open ChangeShapes RowKit
theorem mi_mpartSchemas:Tryz.checked.prog.mainIs=some (Rows.mpartSchemasCard.stood.harness.fst,Rows.mpartSchemasCard.stood.harness.snd.toList):=by kernel_rfl
theorem lk_mpartSchemas:false=Tryz.checked.prog.looks []:=by kernel_rfl
theorem fn_mpartSchemas:Tryz.prog.funcNamed Rows.mpartSchemasRow.func=some 12:=by kernel_rfl
end Go.Proofs.YtnmlajmaffiigaaGreatDoor
