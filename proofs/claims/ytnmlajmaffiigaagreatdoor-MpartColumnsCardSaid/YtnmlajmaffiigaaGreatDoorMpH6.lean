/- Closed facts of MpartColumns's card. -/
import Derived.Test.YtnmlajmaffiigaaGreatDoorRows
import Derived.JoinedOf
import Derived.Test.YtnmlajmaffiigaaGreatDoorLaid
set_option linter.constructorNameAsVariable false
namespace Go.Proofs.YtnmlajmaffiigaaGreatDoor
open ChangeShapes RowKit
theorem mi_mpartColumns:Tryz.checked.prog.mainIs=some (Rows.mpartColumnsCard.stood.harness.fst,Rows.mpartColumnsCard.stood.harness.snd.toList):=by kernel_rfl
theorem lk_mpartColumns:false=Tryz.checked.prog.looks []:=by kernel_rfl
theorem fn_mpartColumns:Tryz.prog.funcNamed Rows.mpartColumnsRow.func=some 9:=by kernel_rfl
end Go.Proofs.YtnmlajmaffiigaaGreatDoor
