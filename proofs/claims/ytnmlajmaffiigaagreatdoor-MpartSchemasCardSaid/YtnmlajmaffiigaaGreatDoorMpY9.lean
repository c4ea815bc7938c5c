/- MpartSchemas: the card over its row. -/
import Derived.Test.YtnmlajmaffiigaaGreatDoorMpC9
import Derived.Test.YtnmlajmaffiigaaGreatDoorMpH9
import Derived.Test.YtnmlajmaffiigaaGreatDoorMpI9
set_option linter.constructorNameAsVariable false
namespace Go.Proofs.YtnmlajmaffiigaaGreatDoor
open Go.P
open RowKit VB ChangeShapes WideShapes ChangeAt
theorem mpartSchemas_card:Rows.MpartSchemasCardSaid:=
 Claim7.holds_tied_plain_at .later [] [.data,.data,.data] true Rows.mpartSchemasCard.stood.harness false mpartSchemas_holds (fun _ h=>by cases h) (by kernel_rfl) (fun _ h=>by cases h) mpartSchemas_row_tie rfl ⟨rfl,rfl⟩ mi_mpartSchemas rfl
  (fun f fn hf hfn=>by
   obtain rfl:f=12:=Option.some.inj ((show Tryz.prog.funcNamed Rows.mpartSchemasRow.func=some 12 from fn_mpartSchemas).symm.trans hf) |>.symm
   obtain rfl:fn=Tryz.f12:=(Option.some.inj (Tryz.func12.symm.trans hfn)).symm
   exact⟨lk_mpartSchemas,fun j t ht=>by
    rw[Tryz.params12] at ht
    have hm:t∈[32,32,3]:=by simpa using Array.mem_of_getElem? ht
    have hall:([32,32,3].all fun u=>!Tryz.prog.wantsStandIn u)=true:=by kernel_rfl
    exact(show Tryz.prog.wantsStandIn t=false by simpa using List.all_eq_true.1 hall t hm)⟩)
  gb_mpartSchemas
end Go.Proofs.YtnmlajmaffiigaaGreatDoor
