/- MpartSchemas: the row over its walk. -/
import Derived.Test.YtnmlajmaffiigaaGreatDoorMpL11
import Derived.Test.YtnmlajmaffiigaaGreatDoorMpF9
set_option linter.constructorNameAsVariable false
set_option maxRecDepth 100000
set_option maxHeartbeats 4000000
namespace Go.Proofs.YtnmlajmaffiigaaGreatDoor
open Go.P
open RowKit VB ChangeShapes WideShapes ChangeAt
theorem mpartSchemas_lifted(os:Os)(started:os.Started)(H:Type)(enc:TypeId×Value->H):
   ReturnsInHanded {} Tryz.checked os 12 .any (fun w args=>(Rows.mpartSchemasSpec.pre enc Tryz.prog Tryz.f12 Rows.mpartSchemasRow.domain false w args/\laidMetH Tryz.prog Rows.mpartSchemasRow.laid w)/\sizedMet enc Tryz.prog Tryz.f12 (OpenSpec.ofChange Rows.mpartSchemasSpec) false w args) (Rows.mpartSchemasSpec.post enc Tryz.prog Tryz.f12 false true false false):=by
 refine laid_lifted (C:=Tryz.checked) (tb:=4) (laid:=Rows.mpartSchemasRow.laid) started Tryz.own Tryz.laidOut (by kernel_rfl) Tryz.func12
  (ChangeSpec.witness_shaped (enc:=enc) (C:=Tryz.checked) (os:=os) (X:=fun w _=>laidMetH Tryz.prog Rows.mpartSchemasRow.laid w) false (World.laidAll Tryz.prog os Rows.mpartSchemasRow.laid) #[.slice none 0 0,.slice none 0 0,.int .i64 0] 8 (World.laidAll_os _ _ _) (World.shaped_of_ZipB (by kernel_rfl) (by kernel_rfl)) (by kernel_rfl) (by kernel_rfl) (by kernel_rfl) (by rw[MakeChecks.laidMetH_plain _ _ _ (by kernel_rfl)];exact laidMet_laidAll _ (by kernel_rfl) (by kernel_rfl)))
  rfl rfl Tryz.underlying4 (by kernel_rfl) (fun ds h=>?_) (fun W base args ds p hval0 hA0 hsz0 hlt hL=>?_)
 ·have h':ds.length=Tryz.f12.params.toList.length:=h
  rw[Tryz.params12] at h'
  match ds,h' with
  | [_,_,_],_=>rfl
 ·have hval:∀(j:Nat)t v,Tryz.f12.params[j]?=some t->args[j]?=some v->Value.okWide Tryz.prog W .any base t v:=hval0
  have hA:DataW.TrodAll enc Tryz.prog W 0 (fun _=>true) true Tryz.f12.params.toList args.toList ds p:=hA0
  have hsz:(DataW.weightsEach Tryz.prog Tryz.f12.params.toList ds).all (·<=reachBytes)=true:=hsz0
  rw[Tryz.params12] at hA hval hsz
  clear hA0 hval0 hsz0
  have ht:Eq7 W:=Au3 hL
  clear hL
  obtain⟨v0,vs0,d0,ds0,p0,q0,hargs,rfl,rfl,h0,r0⟩:=trodAll_cons hA
  obtain⟨v1,vs1,d1,ds1,p1,q1,rfl,rfl,rfl,h1,r1⟩:=trodAll_cons r0
  obtain⟨v2,vs2,d2,ds2,p2,q2,rfl,rfl,rfl,h2,r2⟩:=trodAll_cons r1
  obtain⟨rfl,rfl,rfl⟩:=trodAll_nil r2
  obtain rfl:args=#[v0,v1,v2]:=by cases args;simp_all
  obtain⟨zx,rx,wx,bx⟩:=Ar9 Tryz.underlying32 Tryz.underlying3 (by kernel_rfl) (hval 0 32 v0 rfl rfl) h0 hsz (j:=0) rfl rfl
  obtain⟨zl,rl,wl,bl⟩:=Ar9 Tryz.underlying32 Tryz.underlying3 (by kernel_rfl) (hval 1 32 v1 rfl rfl) h1 hsz (j:=1) rfl rfl
  obtain⟨at',rfl,rfl,rfl,wat'⟩:=open_int Tryz.underlying3 (hval 2 3 v2 rfl rfl) h2
  change Calls Tryz.prog 12 #[v0,v1,.int .i64 at'] W (RetB (.bool true) W)
  exact mpartSchemas_walk v0 v1 zx zl at' W rx wx rl wl wat'
theorem mpartSchemas_holds:Rows.MpartSchemasSaid:=
 OpenClaim.holds_of_wide 12 Tryz.f12 rfl rfl rfl rfl rfl rfl rfl ⟨rfl,rfl,rfl,rfl,rfl⟩ rfl rfl rfl rfl rfl (by kernel_rfl) Tryz.func12 jf_mpartSchemas
  (of_decide_eq_true (by kernel_rfl)) (by unfold Func.isWrapper;first | (rw[if_pos (by decide +kernel)];kernel_rfl) | (rw[if_neg (by decide +kernel)];exact⟨rfl,rfl⟩))
  (fun os started H enc _=>mpartSchemas_lifted os started H enc)
end Go.Proofs.YtnmlajmaffiigaaGreatDoor
