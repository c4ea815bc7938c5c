/- MpartDetectsChanges: the card over its row. -/
import Derived.Test.YtnmlajmaffiigaaGreatDoorMpC7
import Derived.Test.YtnmlajmaffiigaaGreatDoorMpH7
import Derived.Test.YtnmlajmaffiigaaGreatDoorMpI7
set_option linter.constructorNameAsVariable false
namespace Go.Proofs.YtnmlajmaffiigaaGreatDoor
open Go.P
open RowKit VB ChangeShapes WideShapes ChangeAt
theorem mpartDetectsChanges_card:Rows.MpartDetectsChangesCardSaid:=
 Claim7.holds_tied_plain_at .later [] [.data,.data,.data] true Rows.mpartDetectsChangesCard.stood.harness false mpartDetectsChanges_holds (fun _ h=>by cases h) (by kernel_rfl) (fun _ h=>by cases h) mpartDetectsChanges_row_tie rfl ⟨rfl,rfl⟩ mi_mpartDetectsChanges rfl
  (fun f fn hf hfn=>by
   obtain rfl:f=10:=Option.some.inj ((show Tryz.prog.funcNamed Rows.mpartDetectsChangesRow.func=some 10 from fn_mpartDetectsChanges).symm.trans hf) |>.symm
   obtain rfl:fn=Tryz.f10:=(Option.some.inj (Tryz.func10.symm.trans hfn)).symm
   exact⟨lk_mpartDetectsChanges,fun j t ht=>by
    rw[Tryz.params10] at ht
    have hm:t∈[32,32,3,5]:=by simpa using Array.mem_of_getElem? ht
    have hall:([32,32,3,5].all fun u=>!Tryz.prog.wantsStandIn u)=true:=by kernel_rfl
    exact(show Tryz.prog.wantsStandIn t=false by simpa using List.all_eq_true.1 hall t hm)⟩)
  gb_mpartDetectsChanges
end Go.Proofs.YtnmlajmaffiigaaGreatDoor
