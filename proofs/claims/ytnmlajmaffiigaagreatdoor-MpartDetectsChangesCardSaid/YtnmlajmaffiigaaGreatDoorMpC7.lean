/- MpartDetectsChanges: the row over its walk. -/
import Derived.Test.YtnmlajmaffiigaaGreatDoorMpL9
import Derived.Test.YtnmlajmaffiigaaGreatDoorMpF7
set_option linter.constructorNameAsVariable false
namespace Go.Proofs.YtnmlajmaffiigaaGreatDoor
open Go.P
open RowKit VB ChangeShapes WideShapes ChangeAt
theorem mpartDetectsChanges_holds:Rows.MpartDetectsChangesSaid:=
 OpenClaim.holds_of_wide 10 Tryz.f10 rfl rfl rfl rfl rfl rfl rfl ⟨rfl,rfl,rfl,rfl,rfl⟩ rfl rfl rfl rfl rfl (by kernel_rfl) Tryz.func10 jf_mpartDetectsChanges
  (of_decide_eq_true (by kernel_rfl)) (by unfold Func.isWrapper;first | (rw[if_pos (by decide +kernel)];kernel_rfl) | (rw[if_neg (by decide +kernel)];exact⟨rfl,rfl⟩))
  (fun os started H enc _=>mpartDetectsChanges_lifted os started H enc)
end Go.Proofs.YtnmlajmaffiigaaGreatDoor
