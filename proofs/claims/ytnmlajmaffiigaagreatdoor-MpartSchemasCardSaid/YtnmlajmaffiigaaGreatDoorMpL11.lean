/- MpartSchemas. -/
import Derived.Test.YtnmlajmaffiigaaGreatDoorMpU
import Derived.Test.YtnmlajmaffiigaaGreatDoorLaid
import Derived.Test.YtnmlajmaffiigaaGreatDoorMpZ
set_option linter.constructorNameAsVariable false
set_option maxRecDepth 100000
set_option maxHeartbeats 4000000
open Go Go.Proofs Go.Proofs.YtnmlajmaffiigaaGreatDoor Go.P
namespace Go.P
open RowKit VB VarM BP VS VL SC CK Go.ST MK RS ZN MP ChangeShapes WideShapes ChangeAt
theorem mpartSchemas_walk(v0 v1:Value)(zx zl:List Int)(at':Int)(W:World)(rx:RdI .i64 W W.heap.size v0 zx)(wx:∀z∈zx,(Lit.int .i64 z).wf=true)(rl:RdI .i64 W W.heap.size v1 zl)(wl:∀z∈zl,(Lit.int .i64 z).wf=true)(wat':(Lit.int .i64 at').wf=true):
   Calls Tryz.prog 12 #[v0,v1,.int .i64 at'] W (RetB (.bool true) W):=by
 have HAWK:=fun w=>Hd (Av4 w)
 have hK:=Hd (Bu1 W v0 zx rx wx)
 go_enter Tryz.func12,Tryz.ntmps12
 go_wp2_with fail
 (with_reducible refine hK.out.mono ?_);rintro e w1 ⟨hb1,yv,ycs,yk,rfl,hoy,hko⟩
 have hyr:=OwnC.read hoy
 obtain⟨yA,yc,rfl,-,-,-⟩:=id hyr
 have hVy:=Var2.new w1 (.slice yA ycs.length yc) (.int .i64 yk) 24
 have hba:=(Q2 w1.heap.size w1).alloc (Q1 _) (.cells #[(.slice yA ycs.length yc),.int .i64 yk] 24)
 obtain⟨X1,hX1⟩:∃X,w1.alloc (.cells #[(.slice yA ycs.length yc),.int .i64 yk] 24)=X:=⟨_,rfl⟩
 rw[hX1] at hVy hba
 have HX1:=Hd hX1
 have HB1:=Hd (Aa0 hb1 hba)
 have hyr1:=hyr.step hba
 have HKO:=Hd hko
 have HKR:=fun w(h:Below X1.heap.size X1 w)=>Hd (show Calls Tryz.prog 16 #[.agg #[.slice yA ycs.length yc,.int .i64 yk],v1,.int .i64 6] w (Eq8 ycs yk 6 w) from Bu0 w ycs (.slice yA ycs.length yc) yk v1 zl 6 (by decide) (hyr1.step h) (Bo7 hko) (Ds0 hko) ((rl.step HB1.out).step h) wl)
 have HY1:=Hd (fun(w:World)(h:Below X1.heap.size X1 w)=>hyr1.step h)
 have HV1:=Hd (fun(w:World)(h:Below X1.heap.size X1 w)=>hVy.step h)
 obtain⟨v0',v1',-,-⟩:=id hVy
 have hm12:ycs.length<=12:=Bo7 hko
 clear hX1 hK hb1 hoy hba hyr hyr1 hVy hko
 go_upto_region 2 with fail
 rw[HX1.out]
 go_cut [8,9] from 16 to 23 (fun fv ev w'=>∃Z:List Rc,KRec ycs yk Z 6/\fv=.string (Fh7 ycs yk Z)/\ev=.int .i64 (An6 ycs yk Z:Nat)/\Below X1.heap.size X1 w')
 case first=>
  go_region_with(first
   | (go_at_call 16;(with_reducible refine(HKR _ (by go_grown)).out.mono ?_);rintro e w2 ⟨u,ls,rfl,hz,hzl,⟨hok,hin⟩,hpw,hb2⟩;have HK:=Hd (Ci1 HKO.out hok hin hpw hzl);obtain⟨Z,hZ⟩:∃Z,Ap8 ycs yk ls=Z:=⟨_,rfl⟩;rw[hZ] at HK hz;obtain⟨uA,uc,un,rfl,hun,-,-⟩:=hz.bds;have HZ:=Hd hz;have HUN:=Hd hun;clear hz hok hin hpw hzl hZ hun;have HB2:=Hd (show Below X1.heap.size X1 w2 from Aa0 (by go_grown) hb2);obtain⟨v0',v1',-,-⟩:=HV1.out w2 HB2.out)
   | (go_at_call 18;(with_reducible refine(Ax5 ycs (.slice yA ycs.length yc) yk (.slice uA un uc) Z _ (HY1.out _ (Aa0 HB2.out (by go_grown))) (HZ.out.step (by go_grown)) HK.out.inr).mono ?_);rintro e w3 ⟨rfl,hb3⟩;have HB3:=Hd (show Below X1.heap.size X1 w3 from Aa0 HB2.out (Aa0 (by go_grown) hb3))))
  all_goals
   go_wp2_with fail
   go_meet
   case rel=>exact⟨Z,HK.out,rfl,rfl,HB3.out⟩
 case rest=>
  obtain⟨Z,hK,rfl,rfl,hB3⟩:=hcut
  have HK:=Hd hK;have HB3:=Hd hB3
  obtain⟨v0',v1',-,-⟩:=HV1.out _ hB3
  clear hK hB3 HKR HX1
  by_cases h0:Z.length=0
  ·rw[HK.out.nil h0,show((1:Nat):Int)=1 from rfl]
   go_wp2_with(go_at_call 22;(with_reducible refine(HAWK _).out.mono ?_);rintro e w4 ⟨rfl,hb4⟩)
   go_ret
   exact RetB.mk rfl (Aa0 HB1.out (Aa0 HB3.out hb4))
  have hE:=HK.out.ok (by decide) h0
  rw[Bk2 hE,hE,show((0:Nat):Int)=0 from rfl]
  have hbig:=HK.out.big (by decide) h0
  have h16:=Cj1 ycs yk Z
  have H0:=Hd h0
  clear hE h0
  clear hbig h16
  have hcs1:=HKO.out.1
  have hcs4:=HKO.out.2.1
  obtain⟨k0,k1⟩:=HKO.out.2.2.2
  obtain⟨yk,rfl⟩:=Int.eq_ofNat_of_zero_le k0
  have HOZ:=Hd (fun(p:Nat)(hp:p<ycs.length)(hne:yk≠p)=>opn_z HKO.out HK.out.S (by have:=HK.out.len;omega) H0.out HK.out.inr hp (show((yk:Nat):Int)≠p by omega))
  have hFs:(str (Aa9 ycs yk Z)).size<=140737488351232:=by rw[Aa3];have:=HK.out.big (by decide) H0.out;omega
  have HFS:=Hd hFs
  clear hFs
  generalize hF:str (Aa9 ycs yk Z)=F at *
  clear hF
  obtain⟨w3,hw3⟩:∃w,wc=w:=⟨_,rfl⟩
  rw[hw3] at HB3 v0' v1'⊢
  have hV:=HV1.out _ HB3.out
  have hR2:=HY1.out _ HB3.out
  clear hw3 v0' v1'
  obtain⟨ad1,cap1,hv1,had1⟩:∃ad cap,Value.slice yA ycs.length yc=.slice (some ad) ycs.length cap/\ad.block<w3.heap.size:=by
   obtain⟨A1,c1,e1,_,_,hr⟩:=hR2
   obtain⟨ad,h1,h2,_⟩:=hr 0 (by omega)
   exact⟨ad,c1,by rw[e1,h1],h2⟩
  injection hv1 with ea _ ec
  subst ea;subst ec
  have HVV:=fun(w:World)(hb:Below w3.heap.size w3 w)=>Hd (hV.step hb)
  have HRR:=fun(w:World)(hb:Below w3.heap.size w3 w)=>Hd (hR2.below hb)
  have bd:Below w3.heap.size w3 w3.drew:=(Q2 _ _).drew
  have ba:Below w3.heap.size w3 (w3.alloc (.cells #[.slice none 0 0,.int .i64 0] 24)).drew:=((Q2 _ _).alloc (Q1 _) _).drew
  have HC0:=Hd (Cp4 (hR2.below bd))
  have HC1:=Hd (Cp4 (hR2.below ba))
  have hN1:=Var2.new w3 (.slice none 0 0) (.int .i64 0) 24
  have hN2:Var2 (w3.alloc (.cells #[.slice none 0 0,.int .i64 0] 24)).drew w3.heap.size (.slice none 0 0) (.int .i64 0):=hN1.step ((Q2 _ _).drew)
  have hlc:(Ab2 ycs).length=ycs.length*4:=Ar0 ycs
  obtain⟨iC,hiC,hzC,hsC,hbC⟩:=info_parts Tryz.infCol
  obtain⟨v0',v1',-,-⟩:=id hV
  go_upto_region 5 with fail
  go_cut [10] from 27 to 80 (fun p8 w'=>∃(b8 g8 cap8:Nat),p8=.pointer (some ⟨b8,0,none⟩)/\Below w3.heap.size w3 w'/\w3.heap.size<=b8/\w3.heap.size<=g8/\b8≠g8/\ycs.length<=cap8/\cap8<=maxLen/\Var2 w' b8 (.slice (some ⟨g8,0,none⟩) ycs.length cap8) (.int .i64 yk)/\RowC 62 w' w3.heap.size g8 cap8 ycs)
  case first=>
   have hg53:=hV.lt
   obtain⟨l0,l1,f0,f1⟩:=id hV
   go_region_law(first
    | ((refine step_append_grows rfl (.const (.slice none 0 0)) (.tmp 28) 22 rfl 62 iC col0.val 4 40 Tryz.underlying22 hiC hzC hsC hbC rfl (by decide) none 0 0 [] rfl (fun _=>⟨rfl,rfl⟩) rfl (fun _ h=>by cases h) ad1 ycs.length yc (Ab2 ycs) rfl hlc (HC0.out) (Bc5 ycs) (by omega) (by unfold maxLen;omega) (by omega) ?_);intro v8 w8 hown hgrow;rw[Nat.zero_add,List.nil_append] at hown;have ho8:OwnC 62 w8 _ v8 ycs:=hown;obtain⟨g8,cap8,rfl,hrow,hge,hlt8,hcc,hcm⟩:=ho8.form hcs1;have hb8:=bd.trans (Av3 hgrow);have hg58:=(HVV _ hb8).out.lt;obtain⟨l0',l1',f0',f1'⟩:=(HVV _ hb8).out)
    | ((refine step_append_grows rfl (.const (.slice none 0 0)) (.tmp 28) 22 rfl 62 iC col0.val 4 40 Tryz.underlying22 hiC hzC hsC hbC rfl (by decide) none 0 0 [] rfl (fun _=>⟨rfl,rfl⟩) rfl (fun _ h=>by cases h) ad1 ycs.length yc (Ab2 ycs) rfl hlc (HC1.out) (Bc5 ycs) (by omega) (by unfold maxLen;omega) (by omega) ?_);intro v8 w8 hown hgrow;rw[Nat.zero_add,List.nil_append] at hown;have ho8:OwnC 62 w8 _ v8 ycs:=hown;obtain⟨g8,cap8,rfl,hrow,hge,hlt8,hcc,hcm⟩:=ho8.form hcs1;have hb8:=ba.trans ((Av3 hgrow).mono ba.size);have hg58:=(HVV _ hb8).out.lt;obtain⟨l0',l1',f0',f1'⟩:=(HVV _ hb8).out;obtain⟨m0,m1,h0,h1⟩:=hN2.step (Av3 hgrow)))
   all_goals clear HAWK HVV HRR HC0 HC1 HOZ
   all_goals
    go_wp2_with fail
    go_meet
    case rel=>first
     | exact⟨w8.heap.size,g8,cap8,rfl,hb8.alloc hb8.size _,hb8.size,hge,by omega,hcc,hcm,Var2.new w8 _ _ _,hrow.alloc _⟩
     | (have hz:(w3.alloc (.cells #[.slice none 0 0,.int .i64 0] 24)).drew.heap.size=w3.heap.size+1:=by(show(w3.alloc _).heap.size=_;simp)
        rw[hz] at hge
        have hrow2:RowC 62 w8 w3.heap.size g8 cap8 ycs:=OwnC.lower hrow (by rw[hz];omega)
        exact⟨w3.heap.size,g8,cap8,rfl,(hb8.setCell (p:=⟨w3.heap.size,0,none⟩) (Q1 _) _).setCell (p:=⟨w3.heap.size,1,none⟩) (Q1 _) _,Q1 _,by omega,by omega,hcc,hcm,Var2.set01 ⟨m0,m1,h0,h1⟩ _ _,(hrow2.other (by omega) _).other (by omega) _⟩)
  case rest=>
   obtain⟨b8,g8,cap8,rfl,hb,hb8,hg8,hbg,hcc,hcm,hV8,hrow⟩:=hcut
   clear bd ba HC0 HC1 hN1 hN2 hlc hiC hzC hsC hbC hR2 hV
   unfold maxLen at hcm
   have HPk:=fun w=>Hd (Bt0 at' (ycs.length:Int) w wat' (by omega) (by omega))
   obtain⟨p0,p1⟩:=Be2 at' (n:=(ycs.length:Int)) (by omega)
   generalize Ch0 at' (ycs.length:Int)=r at *
   obtain⟨r,rfl⟩:=Int.eq_ofNat_of_zero_le p0
   have d1:-1000000<=(yk:Int)+1/\(yk:Int)+1<=1000000:=⟨by omega,by omega⟩
   have d2:-1000000<=(yk:Int)+1+(r:Int)/\(yk:Int)+1+(r:Int)<=1000000:=⟨by omega,by omega⟩
   have q4:¬(ycs.length:Int)=0:=by omega
   have q5:=Ab3 q4
   obtain⟨p,hp,q3⟩:=mod_at (yk+1+r) (n:=ycs.length) hcs1
   have q3:Int.tmod ((yk:Int)+1+(r:Int)) (ycs.length:Int)=(p:Int):=q3
   have d3:-1000000<=(p:Int)/\(p:Int)<=1000000:=⟨by omega,by omega⟩
   have q1:=Fc5 d1
   have q2:=Fc5 d2
   have q6:=Fc5 d3
   have q1':=Dh8 d1
   have q2':=Dh8 d2
   have q7:=Dh8 d3
   clear d1 d2 d3
   clear wat' p0 p1
   obtain⟨m0,m1,h0,h1⟩:=id hV8
   obtain⟨v0',v1',-,-⟩:=(HVV _ hb).out
   go_upto_region 6 with fail
   go_quiet(first | (go_at_call 19;refine Bh4 (HPk _).out))
   clear m0 m1 h0 h1 v0' v1' HPk q1 q2 q1' q2' q3 q4 q5 q6 q7
   have hq:=Go.below_drewN (Q2 wc.heap.size wc) nq
   replace hb:=Go.below_drewN hb nq
   replace hV8:=hV8.step hq
   replace hrow:=hrow.below hq
   clear hq
   generalize wc.drewN nq=w4 at *
   clear wc
   have hx0:=hrow.nameAt hp
   have hf0:=hrow.frozenAt (p*4)
   obtain⟨_,_,hv,_,_,hr⟩:=(HRR _ hb).out
   injection hv with a1 _ a3
   subst a1;subst a3
   obtain⟨ad,h2,_,hat⟩:=hr yk (by omega)
   obtain rfl:=Option.some.inj h2
   obtain⟨z0,_,_,_⟩:=hat
   have hnm:((ycs.getD p col0).nm.toList==(ycs.getD yk col0).nm.toList)=decide (yk=p):=by
    by_cases h:yk=p
    ·subst h;rw[Q4 rfl];exact beq_self_eq_true _
    ·rw[Q3 h]
     refine beq_eq_false_iff_ne.2 fun e=>?_
     have e2:(ycs.getD p col0).nm=(ycs.getD yk col0).nm:=by
      rw[ByteArray.toList_eq,ByteArray.toList_eq] at e
      exact ByteArray.ext (Array.ext' e)
     obtain⟨_,_,hkk,_⟩:=HKO.out
     rw[(hkk p hp).1,(hkk yk (by omega)).1] at e2
     have:=Bj0 (by omega) (by omega) e2
     omega
   obtain⟨m0,m1,h0,h1⟩:=id hV8
   obtain⟨v0',v1',-,-⟩:=(HVV _ hb).out
   generalize (ycs.getD yk col0).nm=NK at *
   clear hr
   by_cases hpk:yk=p
   ·rw[Q4 hpk] at hnm
    clear hpk HOZ HRR HVV
    generalize (ycs.getD p col0).nm=NP at *
    go_wp2_with fail
    go_quiet(fail)
    have hq:=Go.below_drewN hb nq
    clear z0 hnm m0 m1 h0 h1 v0' v1' hx0 hf0 hrow hV8 hb
    go_wp2_with(go_at_call 22;(with_reducible refine(HAWK _).out.mono ?_);rintro e w8 ⟨rfl,hb8⟩)
    go_ret
    exact RetB.mk rfl (Aa0 HB1.out (Aa0 HB3.out (Aa0 hq hb8)))
   rw[Q3 hpk] at hnm
   have hopn:=HOZ.out p hp hpk
   have hchz:=Bs2 HKO.out hp
   clear HOZ HRR HVV HKO HK H0 hpk hcs1
   obtain⟨NP,hNP⟩:∃N,(ycs.getD p col0).nm=N:=⟨_,rfl⟩
   rw[hNP] at hx0 hnm
   clear hNP
   go_wp2_with fail
   go_quiet(fail)
   clear z0 hnm m0 m1 h0 h1 v0' v1' hx0 hf0
   have hq:=Go.below_drewN (Q2 w4.heap.size w4) nq
   replace hb:=Go.below_drewN hb nq
   replace hV8:=hV8.step hq
   replace hrow:=hrow.below hq
   clear hq
   generalize w4.drewN nq=w5 at *
   have hx0:=hrow.nameAt hp
   have hf0:=hrow.frozenAt (p*4)
   have hrow6:RowC 62 (w5.setCell ⟨g8,p*4,none⟩ (.string ⟨#[122]⟩)) w3.heap.size g8 cap8 (Bd7 ycs p):=hrow.store p 0 (.string ⟨#[122]⟩) ⟨zS,(ycs.getD p col0).ty,(ycs.getD p col0).sc,(ycs.getD p col0).nu⟩ hp (by decide) rfl
   have hV6:=hV8.other2 (c:=g8) (i:=p*4) (u:=.string ⟨#[122]⟩) hbg
   have hb6:Below w3.heap.size w3 (w5.setCell ⟨g8,p*4,none⟩ (.string ⟨#[122]⟩)):=hb.setCell (p:=⟨g8,p*4,none⟩) hg8 _
   have hR6:RdC (w5.setCell ⟨g8,p*4,none⟩ (.string ⟨#[122]⟩)) (w5.setCell ⟨g8,p*4,none⟩ (.string ⟨#[122]⟩)).heap.size (.slice (some ⟨g8,0,none⟩) ycs.length cap8) (Bd7 ycs p):=by have h:=OwnC.read hrow6;rw[Ar7] at h;exact h
   obtain⟨m0,m1,_,_⟩:=id hV6
   clear hb hV8 hrow hrow6
   obtain⟨w6,hw6⟩:∃w,w5.setCell ⟨g8,p*4,none⟩ (.string ⟨#[122]⟩)=w:=⟨_,rfl⟩
   rw[hw6] at hV6 hb6 hR6
   have HIN:=Hd (Dq9 (Bd7 ycs p) (.slice (some ⟨g8,0,none⟩) ycs.length cap8) yk F w6 hR6 HFS.out)
   have HW6:=Hd hw6
   have HCK:=fun w(h:RdC w w.heap.size (.slice (some ⟨g8,0,none⟩) ycs.length cap8) (Bd7 ycs p))=>Hd (Ba4 (Bd7 ycs p) (.slice (some ⟨g8,0,none⟩) ycs.length cap8) yk w h)
   rw[hchz] at HCK
   clear hw6 hchz HFS
   go_wp2_with fail
   rw[HW6.out]
   (with_reducible refine HIN.out.mono ?_);rintro e w7 ⟨zv,rfl,hzv,hb7⟩
   obtain⟨zA,zc,zn,rfl,-,-,-⟩:=hzv.bds
   clear hzv
   rw[hopn]
   generalize (opn (Bd7 ycs p) yk F).2.inf=I
   unfold Dg4
   have hV7:=hV6.step hb7
   have hR7:=hR6.step hb7
   clear HIN hopn m0 m1 hV6 hR6 hx0 hf0
   go_wp2_with fail
   (with_reducible refine(HAWK _).out.mono ?_);rintro e w8 ⟨rfl,hb8⟩
   have hb78:=Aa0 ((Q2 w7.heap.size w7).alloc (Q1 _) _) hb8
   have hR8:=hR7.step hb78
   obtain⟨m0,m1,_,_⟩:=hV7.step hb78
   clear hb8 hR7
   go_wp2_with fail
   (with_reducible refine(HCK _ hR8).out.mono ?_);rintro e w9 ⟨rfl,hb9⟩
   go_wp2_with fail
   go_ret
   exact RetB.mk rfl (Aa0 HB1.out (Aa0 HB3.out (Aa0 hb6 (Aa0 hb7 (Aa0 hb78 hb9)))))
end Go.P
