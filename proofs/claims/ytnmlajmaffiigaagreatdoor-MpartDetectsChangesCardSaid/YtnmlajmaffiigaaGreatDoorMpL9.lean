/- MpartDetectsChanges. -/
import Derived.Test.YtnmlajmaffiigaaGreatDoorMpU
import Derived.Test.YtnmlajmaffiigaaGreatDoorLaid
import Derived.Test.YtnmlajmaffiigaaGreatDoorMpX
set_option linter.constructorNameAsVariable false
set_option maxRecDepth 100000
set_option maxHeartbeats 4000000
open Go Go.Proofs Go.Proofs.YtnmlajmaffiigaaGreatDoor Go.P
namespace Go.P
open RowKit VB VarM BP VS VL SC CK Go.ST MK RS ZN MP ChangeShapes WideShapes ChangeAt
theorem mpartDetectsChanges_lifted(os:Os)(started:os.Started)(H:Type)(enc:TypeId×Value->H):
   ReturnsInHanded {} Tryz.checked os 10 .any (fun w args=>(Rows.mpartDetectsChangesSpec.pre enc Tryz.prog Tryz.f10 Rows.mpartDetectsChangesRow.domain false w args/\laidMetH Tryz.prog Rows.mpartDetectsChangesRow.laid w)/\sizedMet enc Tryz.prog Tryz.f10 (OpenSpec.ofChange Rows.mpartDetectsChangesSpec) false w args) (Rows.mpartDetectsChangesSpec.post enc Tryz.prog Tryz.f10 false true false false):=by
 refine laid_lifted (C:=Tryz.checked) (tb:=4) (laid:=Rows.mpartDetectsChangesRow.laid) started Tryz.own Tryz.laidOut (by kernel_rfl) Tryz.func10
  (ChangeSpec.witness_shaped (enc:=enc) (C:=Tryz.checked) (os:=os) (X:=fun w _=>laidMetH Tryz.prog Rows.mpartDetectsChangesRow.laid w) false (World.laidAll Tryz.prog os Rows.mpartDetectsChangesRow.laid) #[.slice none 0 0,.slice none 0 0,.int .i64 0,.int .u8 0] 8 (World.laidAll_os _ _ _) (World.shaped_of_ZipB (by kernel_rfl) (by kernel_rfl)) (by kernel_rfl) (by kernel_rfl) (by kernel_rfl) (by rw[MakeChecks.laidMetH_plain _ _ _ (by kernel_rfl)];exact laidMet_laidAll _ (by kernel_rfl) (by kernel_rfl)))
  rfl rfl Tryz.underlying4 (by kernel_rfl) (fun ds h=>?_) (fun W base args ds p hval0 hA0 hsz0 hlt hL=>?_)
 ·have h':ds.length=Tryz.f10.params.toList.length:=h
  rw[Tryz.params10] at h'
  match ds,h' with
  | [_,_,_,_],_=>rfl
 ·have hval:∀(j:Nat)t v,Tryz.f10.params[j]?=some t->args[j]?=some v->Value.okWide Tryz.prog W .any base t v:=hval0
  have hA:DataW.TrodAll enc Tryz.prog W 0 (fun _=>true) true Tryz.f10.params.toList args.toList ds p:=hA0
  have hsz:(DataW.weightsEach Tryz.prog Tryz.f10.params.toList ds).all (·<=reachBytes)=true:=hsz0
  rw[Tryz.params10] at hA hval hsz
  clear hA0 hval0 hsz0
  have ht:Eq7 W:=Au3 hL
  clear hL
  obtain⟨v0,vs0,d0,ds0,p0,q0,hargs,rfl,rfl,h0,r0⟩:=trodAll_cons hA
  obtain⟨v1,vs1,d1,ds1,p1,q1,rfl,rfl,rfl,h1,r1⟩:=trodAll_cons r0
  obtain⟨v2,vs2,d2,ds2,p2,q2,rfl,rfl,rfl,h2,r2⟩:=trodAll_cons r1
  obtain⟨v3,vs3,d3,ds3,p3,q3,rfl,rfl,rfl,h3,r3⟩:=trodAll_cons r2
  obtain⟨rfl,rfl,rfl⟩:=trodAll_nil r3
  obtain rfl:args=#[v0,v1,v2,v3]:=by cases args;simp_all
  obtain⟨zx,rx,wx,bx⟩:=Ar9 Tryz.underlying32 Tryz.underlying3 (by kernel_rfl) (hval 0 32 v0 rfl rfl) h0 hsz (j:=0) rfl rfl
  obtain⟨zl,rl,wl,bl⟩:=Ar9 Tryz.underlying32 Tryz.underlying3 (by kernel_rfl) (hval 1 32 v1 rfl rfl) h1 hsz (j:=1) rfl rfl
  obtain⟨at',rfl,rfl,rfl,wat'⟩:=open_int Tryz.underlying3 (hval 2 3 v2 rfl rfl) h2
  obtain⟨b,rfl,rfl,rfl,wb⟩:=open_int Tryz.underlying5 (hval 3 5 v3 rfl rfl) h3
  change Calls Tryz.prog 10 #[v0,v1,.int .i64 at',.int .u8 b] W (RetB (.bool true) W)
  have HAWK:=fun w=>Hd (Av4 w)
  have hK:=Hd (Bu1 W v0 zx rx wx)
  go_enter Tryz.func10,Tryz.ntmps10
  go_wp2_with fail
  (with_reducible refine hK.out.mono ?_);rintro e w1 ⟨hb1,yv,ycs,yk,rfl,hoy,hko⟩
  have hyr:=OwnC.read hoy
  obtain⟨yA,yc,rfl,-,-,-⟩:=id hyr
  have hVy:=Var2.new w1 (.slice yA ycs.length yc) (.int .i64 yk) 24
  have hba:=(Q2 w1.heap.size w1).alloc (Q1 _) (.cells #[(.slice yA ycs.length yc),.int .i64 yk] 24)
  obtain⟨X1,hX1⟩:∃X,w1.alloc (.cells #[(.slice yA ycs.length yc),.int .i64 yk] 24)=X:=⟨_,rfl⟩
  rw[hX1] at hVy hba
  have HX1:=Hd hX1
  have HB1:=Hd (Aa0 hb1 hba)
  have hyr1:=hyr.step hba
  have HKO:=Hd hko
  have HKR:=fun w(h:Below X1.heap.size X1 w)=>Hd (show Calls Tryz.prog 16 #[.agg #[.slice yA ycs.length yc,.int .i64 yk],v1,.int .i64 6] w (Eq8 ycs yk 6 w) from Bu0 w ycs (.slice yA ycs.length yc) yk v1 zl 6 (by decide) (hyr1.step h) (Bo7 hko) (Ds0 hko) ((rl.step HB1.out).step h) wl)
  have HY1:=Hd (fun(w:World)(h:Below X1.heap.size X1 w)=>hyr1.step h)
  have HV1:=Hd (fun(w:World)(h:Below X1.heap.size X1 w)=>hVy.step h)
  obtain⟨v0',v1',-,-⟩:=id hVy
  have hm12:ycs.length<=12:=Bo7 hko
  clear hX1 hK hb1 hoy hba hyr hyr1 hVy hko
  have hbb:=bounds_u8 wb
  clear wb
  go_upto_region 2 with fail
  rw[HX1.out]
  go_cut [10,11] from 17 to 24 (fun fv ev w'=>∃Z:List Rc,KRec ycs yk Z 6/\fv=.string (Fh7 ycs yk Z)/\ev=.int .i64 (An6 ycs yk Z:Nat)/\Below X1.heap.size X1 w')
  case first=>
   go_region_with(first
    | (go_at_call 16;(with_reducible refine(HKR _ (by go_grown)).out.mono ?_);rintro e w2 ⟨u,ls,rfl,hz,hzl,⟨hok,hin⟩,hpw,hb2⟩;have HK:=Hd (Ci1 HKO.out hok hin hpw hzl);obtain⟨Z,hZ⟩:∃Z,Ap8 ycs yk ls=Z:=⟨_,rfl⟩;rw[hZ] at HK hz;obtain⟨uA,uc,un,rfl,hun,-,-⟩:=hz.bds;have HZ:=Hd hz;have HUN:=Hd hun;clear hz hok hin hpw hzl hZ hun;have HB2:=Hd (show Below X1.heap.size X1 w2 from Aa0 (by go_grown) hb2);obtain⟨v0',v1',-,-⟩:=HV1.out w2 HB2.out)
    | (go_at_call 18;(with_reducible refine(Ax5 ycs (.slice yA ycs.length yc) yk (.slice uA un uc) Z _ (HY1.out _ (Aa0 HB2.out (by go_grown))) (HZ.out.step (by go_grown)) HK.out.inr).mono ?_);rintro e w3 ⟨rfl,hb3⟩;have HB3:=Hd (show Below X1.heap.size X1 w3 from Aa0 HB2.out (Aa0 (by go_grown) hb3))))
   all_goals
    go_wp2_with fail
    go_meet
    case rel=>exact⟨Z,HK.out,rfl,rfl,HB3.out⟩
  case rest=>
   obtain⟨Z,hK,rfl,rfl,hB3⟩:=hcut
   have HK:=Hd hK;have HB3:=Hd hB3
   obtain⟨v0',v1',-,-⟩:=HV1.out _ hB3
   clear hK hB3 HKR HX1
   by_cases h0:Z.length=0
   ·rw[HK.out.nil h0,show((1:Nat):Int)=1 from rfl]
    go_wp2_with(go_at_call 22;(with_reducible refine(HAWK _).out.mono ?_);rintro e w4 ⟨rfl,hb4⟩)
    go_ret
    exact RetB.mk rfl (Aa0 HB1.out (Aa0 HB3.out hb4))
   have hE:=HK.out.ok (by decide) h0
   rw[Bk2 hE,hE,show((0:Nat):Int)=0 from rfl]
   have hbig:=HK.out.big (by decide) h0
   have h16:=Cj1 ycs yk Z
   have H0:=Hd h0
   clear hE h0
   have HCG:=Hd (fun(k:Nat)(x y:UInt8)hy hne hk=>Ey4 (k:=k) (x:=x) (y:=y) HK.out.S (by have:=HK.out.len;omega) H0.out HK.out.inr hy hne hk)
   have HRC:=Hd (fun(F:ByteArray)(hF:F.size<=140737488351232)(w:World)(h:Below X1.heap.size X1 w)=>Ca5 ycs (.slice yA ycs.length yc) yk F w (HY1.out w h) hF)
   generalize Aa9 ycs yk Z=T at *
   obtain⟨N,hN⟩:∃N,T.length=N:=⟨_,rfl⟩
   have hsT:=Aa3 T
   rw[hN] at hsT hbig h16
   obtain⟨S,hS⟩:∃S,str T=S:=⟨_,rfl⟩
   rw[hS] at hsT⊢
   have HS:=Hd hS;have HN:=Hd hN
   have hsz8:wrap64 ((N:Int)-8)=(N:Int)-8:=by unfold wrap64;omega
   have hsz4:wrap64 ((N:Int)-4)=(N:Int)-4:=by unfold wrap64;omega
   have HPk:=fun w=>Hd (Bt0 at' (N:Int) w wat' (by omega) (by omega))
   obtain⟨p0,p1⟩:=Be2 at' (n:=(N:Int)) (by omega)
   generalize Ch0 at' (N:Int)=i at *
   obtain⟨i,rfl⟩:=Int.eq_ofNat_of_zero_le p0
   clear hS p0 hN
   by_cases hk:N<=i+8/\i+4<N
   ·have hd1:decide ((N:Int)-8<=(i:Int))=true:=Q4 (by omega)
    have hd2:decide ((i:Int)<(N:Int)-4)=true:=Q4 (by omega)
    clear hk p1 hbig h16
    go_wp2_with(first
     | (go_at_call 19;(with_reducible refine(HPk _).out.mono ?_);rintro e w' ⟨rfl,rfl⟩)
     | (go_at_call 22;(with_reducible refine(HAWK _).out.mono ?_);rintro e w4 ⟨rfl,hb4⟩))
    go_ret
    exact RetB.mk rfl (Aa0 HB1.out (Aa0 HB3.out hb4))
   have HNK:=Hd hk
   have hk2:decide ((N:Int)-8<=(i:Int))=false\/(decide ((N:Int)-8<=(i:Int))=true/\decide ((i:Int)<(N:Int)-4)=false):=by
    by_cases h:(N:Int)-8<=(i:Int)
    ·exact .inr ⟨Q4 h,Q3 (by omega)⟩
    ·exact .inl (Q3 h)
   clear hk
   have hg:=Ai1 S
   obtain⟨X,hX⟩:∃X,S.extract 0 i=X:=⟨_,rfl⟩
   obtain⟨Y,hY⟩:∃Y,S.extract (i+1) N=Y:=⟨_,rfl⟩
   have hXs:X.size<=830000:=by rw[←hX,ByteArray.size_extract];omega
   have hYs:Y.size<=830000:=by rw[←hY,ByteArray.size_extract];omega
   have q1:(0:Int)<=(i:Int):=by omega
   have q3:(0:Int)<=(i:Int)+1:=by omega
   have q2:(i:Int)<=(N:Int):=by omega
   have q2b:(i:Int)<(N:Int):=by omega
   have q3m:i<N:=by omega
   have q4:(i:Int)+1<=(N:Int):=by omega
   have q5:IntKind.i64.wrap ((i:Int)+1)=(i:Int)+1:=IntWalk.i64_in _ ⟨by omega,by omega⟩
   have q5':wrap64 ((i:Int)+1)=(i:Int)+1:=by unfold wrap64;omega
   obtain⟨c,hcc,c1,c2⟩:=Cq7 hbb.1
   have hxx:=Er4 (Ah2 S i) c1 c2
   obtain⟨xv,hxv⟩:∃x,bits .xor .u8 (bN S i:Nat) c=x:=⟨_,rfl⟩
   rw[hxv] at hxx
   obtain⟨hxn,hxb⟩:=hxx
   have hU:X++str [UInt8.ofNat xv.toNat]++Y=str (chg T i (UInt8.ofNat xv.toNat)):=Cw2 HS.out (UInt8.ofNat xv.toNat) hX (by first | exact hY | (rw[hsT];exact hY))
   have hne:=HCG.out i (UInt8.ofNat xv.toNat) _ (Ea1 T (by rw[HN.out];exact q3m)) (by rw[HS.out];exact hxn) (by rw[HN.out];exact HNK.out)
   rw[←hU] at hne
   have HOW:=fun w=>Hd (Cq8 5 w hxb)
   have hY1:(str [UInt8.ofNat xv.toNat]).size=1:=by rw[Aa3];rfl
   obtain⟨M,hM⟩:∃M,str [UInt8.ofNat xv.toNat]=M:=⟨_,rfl⟩
   rw[hM] at hU hne hY1
   have HM:=Hd hM
   clear hM
   have a1:∀w,(Op.stringOp .add X M).run Tryz.prog w=.ok (.string (X++M)) w:=fun w=>run_string_add_sum w _ _ (by omega)
   have a2:∀w,(Op.stringOp .add (X++M) Y).run Tryz.prog w=.ok (.string (X++M++Y)) w:=fun w=>run_string_add_sum w _ _ (by rw[ByteArray.size_append];omega)
   have hUs:(X++M++Y).size<=140737488351232:=by rw[ByteArray.size_append,ByteArray.size_append];omega
   have HRU:=Hd (HRC.out _ hUs)
   unfold RecsF at HRU
   obtain⟨R,hR⟩:∃R,(Bw8 ycs yk (X++M++Y)).2=R:=⟨_,rfl⟩
   rw[hR] at hne HRU
   have hRn:¬((R:Nat):Int)=0:=by omega
   have hR0:=Q4 hRn
   have hR1:=Ab3 hRn
   have hR2:(((R:Nat):Int)!=0)=true:=by unfold bne;rw[hR1];rfl
   clear hR hne hU hUs hY1 HRC HCG hXs hYs hbig h16 p1 hxn hxb c1 c2
   rcases hk2 with hk2 | ⟨hk2,hk3⟩
   all_goals
    go_upto_region 8 with(first
     | (go_at_call 19;(with_reducible refine(HPk _).out.mono ?_);rintro e w' ⟨rfl,rfl⟩))
    have hcv:=Ad4 (P:=Tryz.prog) 41 9 5 Tryz.underlying41 Tryz.underlying5 Tryz.underlying9 (HOW wc).out
    rw[HM.out] at hcv
    have hbw:Below wc.heap.size wc (wc.alloc (.cells #[.int .u8 xv] 5)).drew:=by go_grown
    obtain⟨z0,z1,-,-⟩:=HV1.out _ (Aa0 HB3.out hbw)
    have HBW:=Hd hbw
    clear hbw
    go_region_with(first
     | (go_at_call 25;(with_reducible refine(HRU.out _ (Aa0 HB3.out HBW.out)).mono ?_);rintro e w5 ⟨y,rfl,-,hb5⟩;have HB5:=Hd (Aa0 HB3.out (Aa0 HBW.out hb5))))
    all_goals
     go_wp2_with(go_at_call 22;(with_reducible refine(HAWK _).out.mono ?_);rintro e w4 ⟨rfl,hb4⟩)
     go_ret
     exact RetB.mk rfl (Aa0 HB1.out (Aa0 HB5.out hb4))
end Go.P
