/- Closed facts of MpartDetectsChanges's card. -/
import Derived.Test.YtnmlajmaffiigaaGreatDoorRows
import Derived.JoinedOf
import Derived.Test.YtnmlajmaffiigaaGreatDoorLaid
set_option linter.constructorNameAsVariable false
namespace Go.Proofs.YtnmlajmaffiigaaGreatDoor
open ChangeShapes RowKit
theorem mi_mpartDetectsChanges:Tryz.checked.prog.mainIs=some (Rows.mpartDetectsChangesCard.stood.harness.fst,Rows.mpartDetectsChangesCard.stood.harness.snd.toList):=by kernel_rfl
theorem lk_mpartDetectsChanges:false=Tryz.checked.prog.looks []:=by kernel_rfl
theorem fn_mpartDetectsChanges:Tryz.prog.funcNamed Rows.mpartDetectsChangesRow.func=some 10:=by kernel_rfl
end Go.Proofs.YtnmlajmaffiigaaGreatDoor
