/- Rows that list variables: the lifting of a law's walk. -/
import Derived.Test.YtnmlajmaffiigaaGreatDoorGa
import Derived.Test.YtnmlajmaffiigaaGreatDoorCards
import Derived.Test.YtnmlajmaffiigaaGreatDoorTie
import Derived.Lay
import Derived.LaidOnce
import Derived.SevenTiedAt
set_option linter.constructorNameAsVariable false
namespace Go.VB
open RowKit ChangeShapes WideShapes ChangeAt
variable {H:Type} {enc:TypeId×Value->H}
theorem laid_lifted {C:Checked} {f:FuncId} {fn:Func} {s:ChangeSpec} {tb:TypeId} {os:Os} {laid:List (String×DataW Unit)} (started:os.Started)
   (own:ownKnob C.prog.godebug=none) (laidOut:laidOutB C.prog=true) (noInit:C.prog.inits.idxOf? f=none) (hfn:C.prog.funcs[f]?=some fn)
   (witness:∃(w:World)(tape:Tape)(i:Input),w.os=os/\(w.forCall tape i).Shaped C.prog/\i.vars=[]/\Input.okWide C.prog (w.forCall tape i) .any w.heap.size f i /\
    ((s.pre enc C.prog fn [] false (w.forCall tape i).memory i.args/\laidMetH C.prog laid (w.forCall tape i).memory)/\sizedMet enc C.prog fn (OpenSpec.ofChange s) false (w.forCall tape i).memory i.args)/\({ modest:=false }:Assume).holds C.prog (lone (Frame.enter C.prog f i.args .normal) [] (w.forCall tape i)))
   (hvars:s.vars=[]) (hres:fn.resultTypes=#[tb]) (hbool:C.prog.underlying tb=some .bool)
   (hparams0:(fn.params.toList.all fun t=>C.prog.readableRec t&&decide (t<C.prog.types.size))=true)
   (hspec:∀ds:List (DataW H),ds.length=fn.params.toList.length->s.fn H ds={ results:=[.lit (.bool true)],args:=ds })
   (walk:∀(W:World)(base:Nat)(args:Array Value)(ds:List (DataW H))(p:List MemPlace),
    (∀(j:Nat)t v,fn.params[j]?=some t->args[j]?=some v->Value.okWide C.prog W .any base t v) ->
    DataW.TrodAll enc C.prog W 0 (fun _=>true) true fn.params.toList args.toList ds p ->
    (DataW.weightsEach C.prog fn.params.toList ds).all (·<=reachBytes)=true ->
    (∀x∈p,x.block<W.heap.size)->laidMetH C.prog laid W ->
    Calls C.prog f args W (RetB (.bool true) W)):
   ReturnsInHanded {} C os f .any (fun w args=>(s.pre enc C.prog fn [] false w args/\laidMetH C.prog laid w)/\sizedMet enc C.prog fn (OpenSpec.ofChange s) false w args) (s.post enc C.prog fn false true false false):=by
 have hparams:∀t∈fn.params.toList,C.prog.readableRec t=true/\t<C.prog.types.size:=fun t ht=>by
  have:=List.all_eq_true.1 hparams0 t ht
  simpa using this
 refine returnsInHanded_of_change_and (X:=fun w _=>laidMetH C.prog laid w) (fun _ _ _ hh h=>h.of_heap hh) own started noInit hfn witness ?_
 intro W base args ds gs before hval hW _ hsz hL _
 have hW':=hW
 obtain⟨p,q,hA,hV,rfl,_,_⟩:=hW
 rw[hvars] at hV
 obtain⟨rfl,rfl⟩:=trodVars_none hV
 have hlt:∀x∈p,x.block<W.heap.size:=fun x hx=>hW'.lt x (List.mem_append_left _ hx)
 have hsz':(DataW.weightsEach C.prog fn.params.toList ds).all (·<=reachBytes)=true:=by
  have e:s.plain.varTypes C.prog=[]:=by simp[ChangeSpec.plain,DataSpec.varTypes,hvars]
  rw[e,List.append_nil,List.append_nil] at hsz
  exact hsz
 refine(walk W base args ds p hval hA hsz' hlt hL).mono fun e W' he=>?_
 obtain⟨rfl,hb⟩:=he
 have hs:=hspec ds (Bm1 _ _ _ _ hA)
 have e0:ds++[]=ds:=List.append_nil ds
 refine⟨_,rfl,ds,[],p++[],[],p,[],hW',?_,?_,?_,hb.frame _,fun h=>by cases h⟩
 ·rw[e0,hs,hres]
  exact trodAll_mk1 (shut_bool hbool _)
 ·rw[e0,hs]
  exact Bs0 laidOut hb _ _ _ _ hparams hlt hA
 ·rw[e0,hs,hvars]
  exact rfl
end Go.VB
