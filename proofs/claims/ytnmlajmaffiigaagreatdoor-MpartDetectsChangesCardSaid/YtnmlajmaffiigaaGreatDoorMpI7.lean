/- A closed fact of MpartDetectsChanges's card. -/
import Derived.Test.YtnmlajmaffiigaaGreatDoorRows
import Derived.JoinedOf
import Derived.Test.YtnmlajmaffiigaaGreatDoorLaid
set_option linter.constructorNameAsVariable false
namespace Go.Proofs.YtnmlajmaffiigaaGreatDoor
open ChangeShapes RowKit
theorem gb_mpartDetectsChanges:false=Rows.mpartDetectsChangesRow.goesBy Tryz.checked.prog:=by kernel_rfl
end Go.Proofs.YtnmlajmaffiigaaGreatDoor
