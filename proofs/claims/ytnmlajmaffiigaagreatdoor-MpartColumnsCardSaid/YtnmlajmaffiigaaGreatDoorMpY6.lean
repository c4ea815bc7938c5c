/- MpartColumns: the card over its row. -/
import Derived.Test.YtnmlajmaffiigaaGreatDoorMpC6
import Derived.Test.YtnmlajmaffiigaaGreatDoorMpH6
import Derived.Test.YtnmlajmaffiigaaGreatDoorMpI6
set_option linter.constructorNameAsVariable false
namespace Go.Proofs.YtnmlajmaffiigaaGreatDoor
open Go.P
open RowKit VB ChangeShapes WideShapes ChangeAt
theorem mpartColumns_card:Rows.MpartColumnsCardSaid:=
 Claim7.holds_tied_plain_at .later [] [.data,.data,.data] true Rows.mpartColumnsCard.stood.harness false mpartColumns_holds (fun _ h=>by cases h) (by kernel_rfl) (fun _ h=>by cases h) mpartColumns_row_tie rfl ⟨rfl,rfl⟩ mi_mpartColumns rfl
  (fun f fn hf hfn=>by
   obtain rfl:f=9:=Option.some.inj ((show Tryz.prog.funcNamed Rows.mpartColumnsRow.func=some 9 from fn_mpartColumns).symm.trans hf) |>.symm
   obtain rfl:fn=Tryz.f9:=(Option.some.inj (Tryz.func9.symm.trans hfn)).symm
   exact⟨lk_mpartColumns,fun j t ht=>by
    rw[Tryz.params9] at ht
    have hm:t∈[32,32,3,5]:=by simpa using Array.mem_of_getElem? ht
    have hall:([32,32,3,5].all fun u=>!Tryz.prog.wantsStandIn u)=true:=by kernel_rfl
    exact(show Tryz.prog.wantsStandIn t=false by simpa using List.all_eq_true.1 hall t hm)⟩)
  gb_mpartColumns
end Go.Proofs.YtnmlajmaffiigaaGreatDoor
