/- A closed fact of MpartExamples's row, in a text of its own: it takes 10 GB. -/
import Derived.Test.YtnmlajmaffiigaaGreatDoorRows
import Derived.JoinedOf
namespace Go.Proofs.YtnmlajmaffiigaaGreatDoor
open Go.ChangeShapes
theorem jf_mpartExamples : joinedFacts Tryz.checked.prog 3 Tryz.f3 Rows.mpartExamplesSpec Rows.mpartExamplesRow = true := by kernel_rfl
end Go.Proofs.YtnmlajmaffiigaaGreatDoor
