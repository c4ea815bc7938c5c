/- Texts of one part, joined. -/
import Derived.Test.YtnmlajmaffiigaaGreatDoorZon
import Derived.Deep.RegionLaw
import Derived.Test.YtnmlajmaffiigaaGreatDoorGa
set_option linter.constructorNameAsVariable false
set_option maxRecDepth 100000
set_option maxHeartbeats 4000000
open Go Go.Proofs Go.Proofs.YtnmlajmaffiigaaGreatDoor Go.P
namespace Go.P
open RowKit VB VL VS ZN
theorem Ef5(ty:Int)(v:Value)(l:List Vl)(W:World)(hr:RdL W W.heap.size v l):Calls Tryz.prog 28 #[.int .i64 ty,v] W (RetB (zof ty l).val W):=by
 obtain⟨A,c,n,rfl,hn,Az,An⟩:=hr.bds
 have HR:=Hd hr;clear hr
 have Ak:=Hd hn
 have HN:=fun w=>Hd (Bn5 w)
 have HL:=fun x n s y m t w=>Hd (Ax4 ty (-1) x n s y m t w)
 have HG:=fun x n s y m t w=>Hd (Ax4 ty 1 x n s y m t w)
 have Au:=Hd (VarZ.new W zn0 59)
 have Aw:=Hd ((Q2 W.heap.size W).alloc (Q1 _) (.cells #[.int .i64 0,.int .i64 0,.bool false,.int .i64 0,.string ⟨#[]⟩,.bool false,.int .i64 0,.string ⟨#[]⟩] 59))
 have As:=Hd (show(W.alloc (.cells #[.int .i64 0,.int .i64 0,.bool false,.int .i64 0,.string ⟨#[]⟩,.bool false,.int .i64 0,.string ⟨#[]⟩] 59)).heap.size=W.heap.size+1 by simp)
 have Be:n<=9223372036854775807:=Nat.le_trans Az An
 clear hn Az An
 go_enter Tryz.func28,Tryz.ntmps28
 go_wp2_with fail
 (with_reducible refine(HN _).out.mono ?_);rintro e w1 ⟨rfl,Ah⟩
 go_wp2_with fail
 (with_reducible refine(HN _).out.mono ?_);rintro e w2 ⟨rfl,Ag⟩
 have hX:=VarZ.new w2 ⟨(n:Int),0,nulV,nulV⟩ 59
 have Ad:=(Q2 w2.heap.size w2).alloc (Q1 _) (.cells #[.int .i64 (n:Int),.int .i64 0,.bool true,.int .i64 0,.string ⟨#[]⟩,.bool true,.int .i64 0,.string ⟨#[]⟩] 59)
 have Aa:=((Au.out.step Ah).step Ag).step Ad
 have Ar:=Aa0 (Aa0 (Aa0 Aw.out Ah) Ag) Ad
 have Bf:W.heap.size<w2.heap.size:=by have:=Ah.size;have:=Ag.size;rw[As.out] at *;omega
 have HX:=Hd hX;have HRES:=Hd Aa;have HBX:=Hd Ar
 clear Ah Ag Ad hX Aa Ar
 go_wp2_with fail
 go_loopw[15] (fun iv wr=>∃j:Nat,iv=.int .i64 j/\j<=n/\Below W.heap.size W wr/\VarZ wr w2.heap.size (Ec6 ty n l j)/\VarZ wr W.heap.size zn0) (fun iv _=>n-(intOf iv).toNat)
 case atStart=>exact⟨0,rfl,Nat.zero_le _,HBX.out,HX.out,HRES.out⟩
 case round=>
  obtain⟨j,rfl,hj,Ab,hz,Aa⟩:=hrel
  have Ac:=Hd Aa;have HBEL:=Hd Ab
  by_cases hjn:j<n
  ·have Aj:l[j]?=some (l[j]'(by rw[←Ak.out];exact hjn)):=Q7 _
   obtain⟨ad,rfl,_,q0,q1,q2⟩:=(HR.out.below Ab).at Aj
   have HT:=Hd (Cn7 (typ:=ty) Aj)
   have Ai:=Bx8 ty (l.take j)
   rw[List.length_take] at Ai
   generalize l[j]=V at q0 q1 q2 HT
   unfold Ec6 at hz
   generalize stz ty (l.take j)=st at hz HT Ai
   obtain⟨k,⟨mb,mi,ms⟩,⟨xb,xi,xs⟩⟩:=st
   obtain⟨vb,vi,vs⟩:=V
   simp only at q0 q1 q2 Ai hz HT
   have hk:k+1<=n:=by omega
   have HZ:=Hd hz
   have Bd:w2.heap.size<wr.heap.size:=hz.lt
   obtain⟨z0,z1,z2,z3,z4,z5,z6,z7,zf⟩:=hz
   have Ba:=zf 1 (by decide)
   simp only at z0 z1 z2 z3 z4 z5 z6 z7
   have hw:wrap64 ((k:Int)+1)=((k+1:Nat):Int):=by unfold wrap64;omega
   clear Ai Aj Aa Ab zf
   cases vb with
   | true=>
     have Bc:=Hd ((Et7 (k:=k+1) HZ.out).alloc (.cells #[.bool true,.int .i64 vi,.string vs] 49));have HRt:=Hd ((Et8 (c:=w2.heap.size) (k:=k+1) Ac.out (by omega)).alloc (.cells #[.bool true,.int .i64 vi,.string vs] 49));have HBt:=Hd ((Et9 (b:=w2.heap.size) (k:=k+1) HBEL.out (by omega)).alloc (by rw[Dt0];omega) (.cells #[.bool true,.int .i64 vi,.string vs] 49))
     go_wp2_with fail
     go_roundw
     case rel=>exact⟨j+1,by go_num,hjn,HBt.out,by rw[Bq7 (k:=k+1) HT.out];exact Bc.out,HRt.out⟩
     case measure=>simp[intOf]<;>omega
   | false=>
     have H1:=fun w=>Hd (Ax4 ty (-1) mb mi ms false vi vs w)
     have H2:=fun w=>Hd (Ax4 ty 1 xb xi xs false vi vs w)
     have hT:stz ty (l.take (j+1))=(k,pck ty (-1) ⟨mb,mi,ms⟩ ⟨false,vi,vs⟩,pck ty 1 ⟨xb,xi,xs⟩ ⟨false,vi,vs⟩):=HT.out
     clear HT
     generalize pck ty (-1) ⟨mb,mi,ms⟩ ⟨false,vi,vs⟩=P at *
     generalize pck ty 1 ⟨xb,xi,xs⟩ ⟨false,vi,vs⟩=Q at *
     obtain⟨pb,pi,ps⟩:=P
     obtain⟨ob,oi,os⟩:=Q
     simp only[Vl.val] at H1 H2
     have HT:=Hd hT
     have Ax:=HZ.out.alloc (.cells #[.bool false,.int .i64 vi,.string vs] 49)
     have Ay:=Ac.out.alloc (.cells #[.bool false,.int .i64 vi,.string vs] 49)
     have Ao:=Var3.new wr (.bool false) (.int .i64 vi) (.string vs) 49
     have Al:=HBEL.out.alloc (by omega) (.cells #[.bool false,.int .i64 vi,.string vs] 49)
     have HF:=Hd (show ∀w,Below (wr.alloc (.cells #[.bool false,.int .i64 vi,.string vs] 49)).heap.size (wr.alloc (.cells #[.bool false,.int .i64 vi,.string vs] 49)) w->VarZ w w2.heap.size ⟨n,k,⟨mb,mi,ms⟩,⟨xb,xi,xs⟩⟩/\VarZ w W.heap.size zn0/\Var3 w wr.heap.size (.bool false) (.int .i64 vi) (.string vs)/\Below W.heap.size W w from
      fun w hb=>⟨Ax.step hb,Ay.step hb,Ao.step hb,Aa0 Al hb⟩)
     clear hT Ax Ay Ao Al HZ HL HG
     have HC:=Hd (show ∀w,Below (wr.alloc (.cells #[.bool false,.int .i64 vi,.string vs] 49)).heap.size (wr.alloc (.cells #[.bool false,.int .i64 vi,.string vs] 49)) w->w.cell? ⟨w2.heap.size,2,none⟩=some (.bool mb)/\w.cell? ⟨w2.heap.size,3,none⟩=some (.int .i64 mi)/\w.cell? ⟨w2.heap.size,4,none⟩=some (.string ms)/\w.cell? ⟨w2.heap.size,5,none⟩=some (.bool xb)/\w.cell? ⟨w2.heap.size,6,none⟩=some (.int .i64 xi)/\w.cell? ⟨w2.heap.size,7,none⟩=some (.string xs)/\w.cell? ⟨wr.heap.size,0,none⟩=some (.bool false)/\w.cell? ⟨wr.heap.size,1,none⟩=some (.int .i64 vi)/\w.cell? ⟨wr.heap.size,2,none⟩=some (.string vs) /\
      w.frozen? ⟨w2.heap.size,2,none⟩=false/\w.frozen? ⟨w2.heap.size,3,none⟩=false/\w.frozen? ⟨w2.heap.size,4,none⟩=false/\w.frozen? ⟨w2.heap.size,5,none⟩=false/\w.frozen? ⟨w2.heap.size,6,none⟩=false/\w.frozen? ⟨w2.heap.size,7,none⟩=false from
      fun w hb=>by
       obtain⟨hz,_,hv,_⟩:=HF.out w hb
       obtain⟨_,_,g2,g3,g4,g5,g6,g7⟩:=hz.frz
       exact⟨hz.c2,hz.c3,hz.c4,hz.c5,hz.c6,hz.c7,hv.c0,hv.c1,hv.c2,g2,g3,g4,g5,g6,g7⟩)
     have Af:=Hd (show ∀w,Below (wr.alloc (.cells #[.bool false,.int .i64 vi,.string vs] 49)).heap.size (wr.alloc (.cells #[.bool false,.int .i64 vi,.string vs] 49)) w->Below W.heap.size W ((((((w.setCell ⟨w2.heap.size,2,none⟩ (.bool pb)).setCell ⟨w2.heap.size,3,none⟩ (.int .i64 pi)).setCell ⟨w2.heap.size,4,none⟩ (.string ps)).setCell ⟨w2.heap.size,5,none⟩ (.bool ob)).setCell ⟨w2.heap.size,6,none⟩ (.int .i64 oi)).setCell ⟨w2.heap.size,7,none⟩ (.string os))/\VarZ ((((((w.setCell ⟨w2.heap.size,2,none⟩ (.bool pb)).setCell ⟨w2.heap.size,3,none⟩ (.int .i64 pi)).setCell ⟨w2.heap.size,4,none⟩ (.string ps)).setCell ⟨w2.heap.size,5,none⟩ (.bool ob)).setCell ⟨w2.heap.size,6,none⟩ (.int .i64 oi)).setCell ⟨w2.heap.size,7,none⟩ (.string os)) w2.heap.size (Ec6 ty n l (j+1))/\VarZ ((((((w.setCell ⟨w2.heap.size,2,none⟩ (.bool pb)).setCell ⟨w2.heap.size,3,none⟩ (.int .i64 pi)).setCell ⟨w2.heap.size,4,none⟩ (.string ps)).setCell ⟨w2.heap.size,5,none⟩ (.bool ob)).setCell ⟨w2.heap.size,6,none⟩ (.int .i64 oi)).setCell ⟨w2.heap.size,7,none⟩ (.string os)) W.heap.size zn0 from fun w hb=>by
      obtain⟨hz,hr,_,hB⟩:=HF.out w hb
      have Ae:W.heap.size≠w2.heap.size:=by omega
      refine⟨Ai8 (k:=5) (Ai8 (k:=2) hB (by omega)) (by omega),?_,?_⟩
      ·rw[Bq7 (k:=k) HT.out]
       exact(hz.setMn ⟨pb,pi,ps⟩).setMx ⟨ob,oi,os⟩
      ·exact(((((hr.other Ae 2 _).other Ae 3 _).other Ae 4 _).other Ae 5 _).other Ae 6 _).other Ae 7 _)
     clear hk hw z0 z1 Ba
     go_wp2_with fail
     clear q0 q1 q2 HR HN Au Aw As HX HRES HBX Ac HBEL Ak HF HT
     go_region_law(first
      | (go_simp;go_at_call 67;(with_reducible refine(H1 _).out.mono ?_);rintro e w3 ⟨rfl,Ad⟩;have hA3:Below (wr.alloc (.cells #[.bool false,.int .i64 vi,.string vs] 49)).heap.size (wr.alloc (.cells #[.bool false,.int .i64 vi,.string vs] 49)) w3:=Aa0 (by first | exact Q2 _ _ | exact(Q2 _ _).drew | exact hA5 | exact hA5.drew) Ad;clear Ad;obtain⟨z2,z3,z4,z5,z6,z7,a0,a1,a2,g2,g3,g4,g5,g6,g7⟩:=HC.out _ hA3)
      | (go_simp;go_at_call 67;(with_reducible refine(H2 _).out.mono ?_);rintro e w5 ⟨rfl,Aq⟩;have hA5:Below (wr.alloc (.cells #[.bool false,.int .i64 vi,.string vs] 49)).heap.size (wr.alloc (.cells #[.bool false,.int .i64 vi,.string vs] 49)) w5:=Aa0 (by first | exact Q2 _ _ | exact(Q2 _ _).drew | exact hA3 | exact hA3.drew) Aq;clear Aq;obtain⟨z2,z3,z4,z5,z6,z7,a0,a1,a2,g2,g3,g4,g5,g6,g7⟩:=HC.out _ hA5))
     all_goals
      go_wp2_with fail
      go_roundw
      case rel=>first | exact⟨j+1,by go_num,hjn,Af.out _ hA5⟩ | exact⟨j+1,by go_num,hjn,Af.out _ hA3⟩
      case measure=>simp[intOf]<;>omega
  ·have ej:j=n:=by omega
   rw[ej,Cm1 Ak.out] at hz
   clear ej hj
   generalize hZ:zof ty l=Z at hz
   obtain⟨zr,zu,⟨mb,mi,ms⟩,⟨xb,xi,xs⟩⟩:=Z
   have Bb:=Hd hZ
   clear hZ
   have hP:=Aa.put ⟨zr,zu,⟨mb,mi,ms⟩,⟨xb,xi,xs⟩⟩
   have Ap:=Hd (An2 (z:=⟨zr,zu,⟨mb,mi,ms⟩,⟨xb,xi,xs⟩⟩) Ab (Q1 _))
   unfold Ez0 at hP Ap
   have HP:=Hd hP
   obtain⟨f0,f1,f2,f3,f4,f5,f6,f7⟩:=Aa.frz
   obtain⟨r0,r1,r2,r3,r4,r5,r6,r7,_⟩:=Aa
   obtain⟨z0,z1,z2,z3,z4,z5,z6,z7,_⟩:=hz
   simp only at z0 z1 z2 z3 z4 z5 z6 z7
   clear hP Ab
   go_wp2
   obtain⟨m0,m1,m2,m3,m4,m5,m6,m7,_⟩:=HP.out
   simp only at m0 m1 m2 m3 m4 m5 m6 m7
   refine bodyPost_ret (v:=(.agg #[.int .i64 zr,.int .i64 zu,.bool mb,.int .i64 mi,.string ms,.bool xb,.int .i64 xi,.string xs])) (by simp[results,Tryz.results28,go_sem,m0,m1,m2,m3,m4,m5,m6,m7]) rfl ?_
   exact RetB.mk (by rw[Bb.out];rfl) Ap.out
end Go.P

namespace Go.ZN
open RowKit VB VS VL CK
theorem Eo8(ty:Int)(nu:Bool):chk ty nu false 0 ⟨#[]⟩=if okT ty then 0 else 1:=by
 cases hT:okT ty with
 | false=>rw[Dz6 hT];rfl
 | true=>
   rw[Ap3 hT,if_neg (by rintro(⟨_,h⟩ | ⟨_,h⟩)<;>exact h rfl)]
   have h5:=okT_five hT
   rcases h5 with rfl | rfl | rfl | rfl | rfl<;>decide
def Dz1(nu:Bool)(rows nulls:Int):Bool:=decide (¬(0<nulls/\nu=false)/\0<=nulls/\nulls<=rows/\rows<=4096)
def prs(ty:Int)(nu:Bool)(x:Vl):Bool:=!x.nu&&(Ae6 ty nu x==0)
theorem Cx6(ty:Int)(nu:Bool)(z:Zn):Er2 ty nu z=(okT ty&&(Dz1 nu z.rows z.nulls&&Dg6 ty nu (z.rows-z.nulls) z.mn z.mx)):=by
 by_cases h:okT ty=false\/z.nulls<0\/z.rows<z.nulls\/4096<z.rows\/(0<z.nulls/\nu=false)
 ·rw[Ec9 h]
  rcases h with h | h
  ·rw[h];rfl
  ·have:Dz1 nu z.rows z.nulls=false:=by
     refine Q3 ?_
     rintro⟨h1,h2,h3,h4⟩
     rcases h with h | h | h | h
     ·omega
     ·omega
     ·omega
     ·exact h1 h
   rw[this];cases okT ty<;>rfl
 ·rw[Cm3 h]
  have h1:okT ty=true:=by
   cases hT:okT ty with
   | true=>rfl
   | false=>exact absurd (.inl hT) h
  have h2:Dz1 nu z.rows z.nulls=true:=by
   refine Q4 ⟨fun hh=>h (.inr (.inr (.inr (.inr hh)))),?_,?_,?_⟩
   ·exact Int.not_lt.1 fun hh=>h (.inr (.inl hh))
   ·exact Int.not_lt.1 fun hh=>h (.inr (.inr (.inl hh)))
   ·exact Int.not_lt.1 fun hh=>h (.inr (.inr (.inr (.inl hh))))
  rw[h1,h2];rfl
theorem Cm9(b:Bool)(n:Int)(s:ByteArray):(b=false/\veq ⟨b,n,s⟩ nulV=false)\/(b=true/\¬n=0/\veq ⟨b,n,s⟩ nulV=false)\/(b=true/\n=0/\s.toList.isEmpty=false/\veq ⟨b,n,s⟩ nulV=false)\/(b=true/\n=0/\s=⟨#[]⟩):=by
 cases b with
 | false=>exact .inl ⟨rfl,rfl⟩
 | true=>
   by_cases hn:n=0
   ·by_cases hs:s.size=0
    ·exact .inr (.inr (.inr ⟨rfl,hn,Ba1 hs⟩))
    ·refine .inr (.inr (.inl ⟨rfl,hn,Bn4 hs,?_⟩))
     cases hv:veq ⟨true,n,s⟩ nulV with
     | false=>rfl
     | true=>
       have:=veq_iff.1 hv
       have e:s=⟨#[]⟩:=congrArg Vl.s this
       rw[e] at hs;exact absurd rfl hs
   ·refine .inr (.inl ⟨rfl,hn,?_⟩)
    cases hv:veq ⟨true,n,s⟩ nulV with
    | false=>rfl
    | true=>exact absurd (congrArg Vl.n (veq_iff.1 hv)) hn
end Go.ZN
namespace Go.P
open RowKit VB VL VS ZN CK
theorem Ej4(nm:ByteArray)(ty sc:Int)(nu:Bool)(w:World):Calls Tryz.prog 184 #[(.agg #[.string nm,.int .i64 ty,.int .i64 sc,.bool nu])] w (RetB (.bool (okT ty)) w):=by
 have H:=fun w=>Hd (Bb3 nm ty sc nu false 0 ⟨#[]⟩ w)
 rw[Eo8] at H
 cases hT:okT ty
 all_goals
  rw[hT] at H
  clear hT
  go_enter Tryz.func184,Tryz.ntmps184
  go_wp2_with fail
  (with_reducible refine(H _).out.mono ?_);rintro e w1 ⟨rfl,hb⟩
  have hB:=Aa0 (show Below w.heap.size w _ from by go_grown) hb
  go_wp2
  go_ret
  exact RetB.mk rfl hB
theorem Bo9(nm:ByteArray)(ty sc:Int)(nu:Bool)(b:Bool)(n:Int)(s:ByteArray)(w:World):Calls Tryz.prog 217 #[(.agg #[.string nm,.int .i64 ty,.int .i64 sc,.bool nu]),(.agg #[.bool b,.int .i64 n,.string s])] w (RetB (.bool (prs ty nu ⟨b,n,s⟩)) w):=by
 cases b with
 | true=>
   go_enter Tryz.func217,Tryz.ntmps217
   go_wp2
   go_ret
   exact RetB.mk rfl (by go_grown)
 | false=>
   have H:=fun w=>Hd (Bb3 nm ty sc nu false n s w)
   have hp:prs ty nu ⟨false,n,s⟩=(chk ty nu false n s==0):=rfl
   rw[hp];clear hp
   generalize chk ty nu false n s=c at *
   by_cases hc:c=0
   ·subst hc
    go_enter Tryz.func217,Tryz.ntmps217
    go_wp2_with fail
    (with_reducible refine(H _).out.mono ?_);rintro e w1 ⟨rfl,hb⟩
    have hB:=Aa0 (show Below w.heap.size w _ from by go_grown) hb
    go_wp2
    go_ret
    exact RetB.mk rfl hB
   ·have e1:(c==0)=false:=beq_eq_false_iff_ne.2 hc
    have e2:((c:Int)==0)=false:=Ab3 (by omega)
    rw[e1]
    clear e1
    go_enter Tryz.func217,Tryz.ntmps217
    go_wp2_with fail
    (with_reducible refine(H _).out.mono ?_);rintro e w1 ⟨rfl,hb⟩
    have hB:=Aa0 (show Below w.heap.size w _ from by go_grown) hb
    go_wp2
    go_ret
    exact RetB.mk rfl hB
theorem De7(nm:ByteArray)(ty sc:Int)(nu:Bool)(Ab Aa:Int)(mb:Bool)(mi:Int)(ms:ByteArray)(xb:Bool)(xi:Int)(xs:ByteArray)(w:World):
   Calls Tryz.prog 185 #[(.agg #[.string nm,.int .i64 ty,.int .i64 sc,.bool nu]),(.agg #[.int .i64 Ab,.int .i64 Aa,.bool mb,.int .i64 mi,.string ms,.bool xb,.int .i64 xi,.string xs])] w (RetB (.bool (Dz1 nu Ab Aa)) w):=by
 have hw:(0<Aa/\nu=false/\Dz1 nu Ab Aa=false)\/(Aa<0/\Dz1 nu Ab Aa=false)\/((0<Aa/\nu=true\/Aa=0)/\Ab<Aa/\Dz1 nu Ab Aa=false)\/((0<Aa/\nu=true\/Aa=0)/\Aa<=Ab/\4096<Ab/\Dz1 nu Ab Aa=false)\/((0<Aa/\nu=true\/Aa=0)/\Aa<=Ab/\Ab<=4096/\Dz1 nu Ab Aa=true):=by
  by_cases h1:0<Aa/\nu=false
  ·exact .inl ⟨h1.1,h1.2,Q3 fun h=>h.1 h1⟩
  ·by_cases h2:Aa<0
   ·exact .inr (.inl ⟨h2,Q3 fun h=>by omega⟩)
   ·have h3:0<Aa/\nu=true\/Aa=0:=by
      by_cases h0:Aa=0
      ·exact .inr h0
      ·left;refine⟨by omega,?_⟩
       cases hn:nu with
       | true=>rfl
       | false=>exact absurd ⟨by omega,hn⟩ h1
    by_cases h4:Ab<Aa
    ·exact .inr (.inr (.inl ⟨h3,h4,Q3 fun h=>by omega⟩))
    ·by_cases h5:4096<Ab
     ·exact .inr (.inr (.inr (.inl ⟨h3,by omega,h5,Q3 fun h=>by omega⟩)))
     ·exact .inr (.inr (.inr (.inr ⟨h3,by omega,by omega,Q4 ⟨h1,by omega,by omega,by omega⟩⟩)))
 rcases hw with⟨h1,rfl,hc⟩ | ⟨h1,hc⟩ | ⟨⟨h1,rfl⟩ | rfl,h2,hc⟩ | ⟨⟨h1,rfl⟩ | rfl,h2,h3,hc⟩ | ⟨⟨h1,rfl⟩ | rfl,h2,h3,hc⟩
 all_goals
  rw[hc];clear hc
  go_enter Tryz.func185,Tryz.ntmps185
  go_wp2
  go_ret
  exact RetB.mk (by first | rfl | simp<;>omega) (by go_grown)
end Go.P
namespace Go.ZN
open RowKit VB VS VL CK
theorem Ea9(ty:Int)(nu:Bool)(a b:Vl):Dg6 ty nu 0 a b=(veq a nulV&&veq b nulV):=if_pos rfl
theorem Ep9{ty:Int}{nu:Bool}{p:Int}{a b:Vl}(hp:¬p=0):Dg6 ty nu p a b=(prs ty nu a&&(prs ty nu b&&decide (Bm5 ty a b=0\/(Bm5 ty a b<0/\1<p)))):=by
 unfold Dg6
 rw[if_neg hp]
 by_cases h:a.nu=true\/b.nu=true\/Ae6 ty nu a≠0\/Ae6 ty nu b≠0
 ·rw[if_pos h]
  have:(prs ty nu a&&prs ty nu b)=false:=by
   unfold prs
   rcases h with h | h | h | h
   ·rw[h];rfl
   ·rw[h];cases a.nu<;>simp
   ·rw[beq_eq_false_iff_ne.2 h];cases a.nu<;>rfl
   ·rw[beq_eq_false_iff_ne.2 h];cases a.nu<;>cases b.nu<;>simp
  rw[←Bool.and_assoc,this];rfl
 ·rw[if_neg h]
  have h1:a.nu=false:=by cases hh:a.nu with
   | true=>exact absurd (.inl hh) h
   | false=>rfl
  have h2:b.nu=false:=by cases hh:b.nu with
   | true=>exact absurd (.inr (.inl hh)) h
   | false=>rfl
  have h3:Ae6 ty nu a=0:=Decidable.byContradiction fun hh=>h (.inr (.inr (.inl hh)))
  have h4:Ae6 ty nu b=0:=Decidable.byContradiction fun hh=>h (.inr (.inr (.inr hh)))
  unfold prs
  rw[h1,h2,h3,h4];rfl
end Go.ZN
namespace Go.P
open RowKit VB VL VS ZN CK
theorem Ck8(nm:ByteArray)(ty sc:Int)(nu:Bool)(Ab Aa:Int)(mb:Bool)(mi:Int)(ms:ByteArray)(xb:Bool)(xi:Int)(xs:ByteArray)(W:World)(hw:wrap64 (Ab-Aa)=0):
   Calls Tryz.prog 186 #[(.agg #[.string nm,.int .i64 ty,.int .i64 sc,.bool nu]),(.agg #[.int .i64 Ab,.int .i64 Aa,.bool mb,.int .i64 mi,.string ms,.bool xb,.int .i64 xi,.string xs])] W (RetB (.bool (Dg6 ty nu 0 ⟨mb,mi,ms⟩ ⟨xb,xi,xs⟩)) W):=by
 rw[Ea9]
 have HN:=fun w=>Hd (Bf6 w)
 have HB:=Hd (show Below W.heap.size W ((W.alloc (.cells #[.string nm,.int .i64 ty,.int .i64 sc,.bool nu] 62)).alloc (.cells #[.int .i64 Ab,.int .i64 Aa,.bool mb,.int .i64 mi,.string ms,.bool xb,.int .i64 xi,.string xs] 59)) from by go_grown)
 have HZ:=Hd (show ∀w,Below ((W.alloc (.cells #[.string nm,.int .i64 ty,.int .i64 sc,.bool nu] 62)).alloc (.cells #[.int .i64 Ab,.int .i64 Aa,.bool mb,.int .i64 mi,.string ms,.bool xb,.int .i64 xi,.string xs] 59)).heap.size ((W.alloc (.cells #[.string nm,.int .i64 ty,.int .i64 sc,.bool nu] 62)).alloc (.cells #[.int .i64 Ab,.int .i64 Aa,.bool mb,.int .i64 mi,.string ms,.bool xb,.int .i64 xi,.string xs] 59)) w->VarZ w (W.heap.size+1) ⟨Ab,Aa,⟨mb,mi,ms⟩,⟨xb,xi,xs⟩⟩ from fun w hb=>by
  have h:=(VarZ.new (W.alloc (.cells #[.string nm,.int .i64 ty,.int .i64 sc,.bool nu] 62)) ⟨Ab,Aa,⟨mb,mi,ms⟩,⟨xb,xi,xs⟩⟩ 59).step hb
  rw[show(W.alloc (.cells #[.string nm,.int .i64 ty,.int .i64 sc,.bool nu] 62)).heap.size=W.heap.size+1 from by simp] at h
  exact h)
 rcases Cm9 mb mi ms with⟨rfl,hv⟩ | ⟨rfl,hn,hv⟩ | ⟨rfl,rfl,he,hv⟩ | ⟨rfl,rfl,rfl⟩
 case' inr.inr.inr=>rcases Cm9 xb xi xs with⟨rfl,hv⟩ | ⟨rfl,hn,hv⟩ | ⟨rfl,rfl,he,hv⟩ | ⟨rfl,rfl,rfl⟩
 all_goals
  (try rw[show veq ⟨true,0,⟨#[]⟩⟩ nulV=true from Cf2 nulV])
  (try rw[hv])
  (try clear hv)
  (try have Ad:=Ab3 hn)
  (try clear hn)
  go_enter Tryz.func186,Tryz.ntmps186
  go_wp2_with fail
  refine Go.Confl.wp_region_confl (by simp only[List.map_cons,List.map_nil];rfl) (by kernel_rfl) (by kernel_rfl) ?_
  iterate 11
   first
   | (refine Go.Confl.chain_skip (Go.Confl.unwanted_is rfl rfl) ?_)
   | (first | apply Go.Confl.chain_is _ (Go.Confl.wanted_none rfl) | apply Go.Confl.chain_is _ (Go.Confl.wanted_is rfl rfl)
      ·intro b w hr hb K hK
       simp[Go.Confl.readFacts,Go.Confl.tmpsOf,Go.Confl.writerOf,Go.Confl.Is,Op.operands,Call.operands,List.findIdx?,List.findIdx?.go] at hr
       obtain⟨c0,c1,c2,c3,c4,c5,c6,c7,_⟩:=HZ.out _ hb
       simp only at c0 c1 c2 c3 c4 c5 c6 c7
       go_wp2_with(first
        | (go_at_call 125;(with_reducible refine(HN _).out.mono ?_);rintro e w' ⟨rfl,Ac⟩))
       try(simp only[hr];go_wp2)
       exact hK _ _ rfl (by first | exact Q2 _ _ | assumption))
   simp only[List.nil_append,List.cons_append]
  intro us w hp hb
  simp[Go.Confl.allPosts,Go.Confl.Is] at hp
  simp only[Go.Confl.putsFrom,hp,Act.put,List.setIfInBounds_toArray,List.set_cons_zero,List.set_cons_succ]
  go_wp2
  go_ret
  exact RetB.mk rfl (Aa0 HB.out hb)
theorem Ck7(nm:ByteArray)(ty sc:Int)(nu:Bool)(Ab Aa p:Int)(mb:Bool)(mi:Int)(ms:ByteArray)(xb:Bool)(xi:Int)(xs:ByteArray)(W:World)(hw:wrap64 (Ab-Aa)=p)(hp:¬p=0):
   Calls Tryz.prog 186 #[(.agg #[.string nm,.int .i64 ty,.int .i64 sc,.bool nu]),(.agg #[.int .i64 Ab,.int .i64 Aa,.bool mb,.int .i64 mi,.string ms,.bool xb,.int .i64 xi,.string xs])] W (RetB (.bool (Dg6 ty nu p ⟨mb,mi,ms⟩ ⟨xb,xi,xs⟩)) W):=by
 rw[Ep9 hp]
 have Ag:=fun w=>Hd (Bo9 nm ty sc nu mb mi ms w)
 have Aj:=fun w=>Hd (Bo9 nm ty sc nu xb xi xs w)
 have HC:=fun w=>Hd (Bw0 ty mb mi ms xb xi xs w)
 have Al:=Cv9 ty mb mi ms xb xi xs
 have Ah:Bm5 ty ⟨mb,mi,ms⟩ ⟨xb,xi,xs⟩=cmp ty mb mi ms xb xi xs:=rfl
 rw[Ah];clear Ah
 have HB:=Hd (show Below W.heap.size W ((W.alloc (.cells #[.string nm,.int .i64 ty,.int .i64 sc,.bool nu] 62)).alloc (.cells #[.int .i64 Ab,.int .i64 Aa,.bool mb,.int .i64 mi,.string ms,.bool xb,.int .i64 xi,.string xs] 59)) from by go_grown)
 have HZ:=Hd (show ∀w,Below ((W.alloc (.cells #[.string nm,.int .i64 ty,.int .i64 sc,.bool nu] 62)).alloc (.cells #[.int .i64 Ab,.int .i64 Aa,.bool mb,.int .i64 mi,.string ms,.bool xb,.int .i64 xi,.string xs] 59)).heap.size ((W.alloc (.cells #[.string nm,.int .i64 ty,.int .i64 sc,.bool nu] 62)).alloc (.cells #[.int .i64 Ab,.int .i64 Aa,.bool mb,.int .i64 mi,.string ms,.bool xb,.int .i64 xi,.string xs] 59)) w->VarZ w (W.heap.size+1) ⟨Ab,Aa,⟨mb,mi,ms⟩,⟨xb,xi,xs⟩⟩/\Var4 w W.heap.size (.string nm) (.int .i64 ty) (.int .i64 sc) (.bool nu) from fun w hb=>by
  have h:=(VarZ.new (W.alloc (.cells #[.string nm,.int .i64 ty,.int .i64 sc,.bool nu] 62)) ⟨Ab,Aa,⟨mb,mi,ms⟩,⟨xb,xi,xs⟩⟩ 59).step hb
  rw[show(W.alloc (.cells #[.string nm,.int .i64 ty,.int .i64 sc,.bool nu] 62)).heap.size=W.heap.size+1 from by simp] at h
  exact⟨h,((Var4.new W (.string nm) (.int .i64 ty) (.int .i64 sc) (.bool nu) 62).step ((Q2 _ _).alloc (Q1 _) (.cells #[.int .i64 Ab,.int .i64 Aa,.bool mb,.int .i64 mi,.string ms,.bool xb,.int .i64 xi,.string xs] 59))).step hb⟩)
 have Ak:=Ab3 hp
 generalize prs ty nu ⟨mb,mi,ms⟩=q1 at *
 generalize prs ty nu ⟨xb,xi,xs⟩=q2 at *
 generalize cmp ty mb mi ms xb xi xs=c at *
 cases q1 with
 | false=>
   rw[Bool.false_and]
   go_enter Tryz.func186,Tryz.ntmps186
   go_wp2_with fail
   (with_reducible refine(Ag _).out.mono ?_);rintro e w1 ⟨rfl,Ac⟩
   have hB:=Aa0 HB.out Ac
   clear HB HZ
   go_wp2
   go_ret
   exact RetB.mk rfl hB
 | true=>
   rw[Bool.true_and]
   cases q2 with
   | false=>
     rw[Bool.false_and]
     go_enter Tryz.func186,Tryz.ntmps186
     go_wp2_with fail
     (with_reducible refine(Ag _).out.mono ?_);rintro e w1 ⟨rfl,Ac⟩
     obtain⟨⟨_,_,z2,z3,z4,z5,z6,z7,_⟩,⟨k0,k1,k2,k3⟩⟩:=HZ.out _ Ac
     simp only at z2 z3 z4 z5 z6 z7
     go_wp2_with fail
     (with_reducible refine(Aj _).out.mono ?_);rintro e w2 ⟨rfl,Ae⟩
     have hB:=Aa0 (Aa0 HB.out Ac) Ae
     clear HB HZ z2 z3 z4 z5 z6 z7 k0 k1 k2 k3
     go_wp2
     go_ret
     exact RetB.mk rfl hB
   | true=>
     rw[Bool.true_and]
     go_enter Tryz.func186,Tryz.ntmps186
     go_wp2_with fail
     (with_reducible refine(Ag _).out.mono ?_);rintro e w1 ⟨rfl,Ac⟩
     obtain⟨⟨_,_,z2,z3,z4,z5,z6,z7,_⟩,⟨k0,k1,k2,k3⟩⟩:=HZ.out _ Ac
     simp only at z2 z3 z4 z5 z6 z7
     go_wp2_with fail
     (with_reducible refine(Aj _).out.mono ?_);rintro e w2 ⟨rfl,Ae⟩
     clear z2 z3 z4 z5 z6 z7 k0 k1 k2 k3
     have Ad:=Aa0 Ac Ae
     obtain⟨⟨_,_,z2,z3,z4,z5,z6,z7,_⟩,⟨k0,k1,k2,k3⟩⟩:=HZ.out _ Ad
     simp only at z2 z3 z4 z5 z6 z7
     go_wp2_with fail
     (with_reducible refine(HC _).out.mono ?_);rintro e w3 ⟨rfl,Ai⟩
     have hB:=Aa0 (Aa0 HB.out Ad) Ai
     clear HB HZ z2 z3 z4 z5 z6 z7 k0 k1 k2 k3 Ac Ae Ad Ai
     have Af:=Hd hB
     clear hB Ak
     have hc:c=0\/c = -1\/c=1:=by omega
     rcases hc with rfl | rfl | rfl
     ·go_wp2
      go_ret
      exact RetB.mk (by simp) Af.out
     ·go_wp2
      go_ret
      exact RetB.mk (by simp) Af.out
     ·go_wp2
      go_ret
      exact RetB.mk (by simp) Af.out
theorem Df5(nm:ByteArray)(ty sc:Int)(nu:Bool)(Ab Aa p:Int)(mb:Bool)(mi:Int)(ms:ByteArray)(xb:Bool)(xi:Int)(xs:ByteArray)(W:World)(hw:wrap64 (Ab-Aa)=p):
   Calls Tryz.prog 186 #[(.agg #[.string nm,.int .i64 ty,.int .i64 sc,.bool nu]),(.agg #[.int .i64 Ab,.int .i64 Aa,.bool mb,.int .i64 mi,.string ms,.bool xb,.int .i64 xi,.string xs])] W (RetB (.bool (Dg6 ty nu p ⟨mb,mi,ms⟩ ⟨xb,xi,xs⟩)) W):=by
 by_cases hp:p=0
 ·subst hp;exact Ck8 nm ty sc nu Ab Aa mb mi ms xb xi xs W hw
 ·exact Ck7 nm ty sc nu Ab Aa p mb mi ms xb xi xs W hw hp
theorem Cx7(nm:ByteArray)(ty sc:Int)(nu:Bool)(Ab Aa:Int)(mb:Bool)(mi:Int)(ms:ByteArray)(xb:Bool)(xi:Int)(xs:ByteArray)(W:World):
   Calls Tryz.prog 148 #[(.agg #[.string nm,.int .i64 ty,.int .i64 sc,.bool nu]),(.agg #[.int .i64 Ab,.int .i64 Aa,.bool mb,.int .i64 mi,.string ms,.bool xb,.int .i64 xi,.string xs])] W (RetB (.bool (Er2 ty nu ⟨Ab,Aa,⟨mb,mi,ms⟩,⟨xb,xi,xs⟩⟩)) W):=by
 rw[Cx6]
 simp only
 have HT:=fun w=>Hd (Ej4 nm ty sc nu w)
 have HC:=fun w=>Hd (De7 nm ty sc nu Ab Aa mb mi ms xb xi xs w)
 have HB:=Hd (show Below W.heap.size W ((W.alloc (.cells #[.string nm,.int .i64 ty,.int .i64 sc,.bool nu] 62)).alloc (.cells #[.int .i64 Ab,.int .i64 Aa,.bool mb,.int .i64 mi,.string ms,.bool xb,.int .i64 xi,.string xs] 59)) from by go_grown)
 have HZ:=Hd (show ∀w,Below ((W.alloc (.cells #[.string nm,.int .i64 ty,.int .i64 sc,.bool nu] 62)).alloc (.cells #[.int .i64 Ab,.int .i64 Aa,.bool mb,.int .i64 mi,.string ms,.bool xb,.int .i64 xi,.string xs] 59)).heap.size ((W.alloc (.cells #[.string nm,.int .i64 ty,.int .i64 sc,.bool nu] 62)).alloc (.cells #[.int .i64 Ab,.int .i64 Aa,.bool mb,.int .i64 mi,.string ms,.bool xb,.int .i64 xi,.string xs] 59)) w->VarZ w (W.heap.size+1) ⟨Ab,Aa,⟨mb,mi,ms⟩,⟨xb,xi,xs⟩⟩/\Var4 w W.heap.size (.string nm) (.int .i64 ty) (.int .i64 sc) (.bool nu) from fun w hb=>by
  have h:=(VarZ.new (W.alloc (.cells #[.string nm,.int .i64 ty,.int .i64 sc,.bool nu] 62)) ⟨Ab,Aa,⟨mb,mi,ms⟩,⟨xb,xi,xs⟩⟩ 59).step hb
  rw[show(W.alloc (.cells #[.string nm,.int .i64 ty,.int .i64 sc,.bool nu] 62)).heap.size=W.heap.size+1 from by simp] at h
  exact⟨h,((Var4.new W (.string nm) (.int .i64 ty) (.int .i64 sc) (.bool nu) 62).step ((Q2 _ _).alloc (Q1 _) (.cells #[.int .i64 Ab,.int .i64 Aa,.bool mb,.int .i64 mi,.string ms,.bool xb,.int .i64 xi,.string xs] 59))).step hb⟩)
 cases hT:okT ty with
 | false=>
   rw[hT] at HT
   rw[Bool.false_and]
   clear hT HZ HC
   go_enter Tryz.func148,Tryz.ntmps148
   go_wp2_with fail
   (with_reducible refine(HT _).out.mono ?_);rintro e w1 ⟨rfl,Ac⟩
   have hB:=Aa0 HB.out Ac
   go_wp2
   go_ret
   exact RetB.mk rfl hB
 | true=>
   rw[hT] at HT
   rw[Bool.true_and]
   clear hT
   by_cases hc:Dz1 nu Ab Aa=true
   ·have hw:wrap64 (Ab-Aa)=Ab-Aa:=by
      obtain⟨_,h2,h3,h4⟩:=of_decide_eq_true hc
      unfold wrap64;omega
    have HD:=fun w=>Hd (Df5 nm ty sc nu Ab Aa _ mb mi ms xb xi xs w hw)
    rw[hc] at HC⊢
    rw[Bool.true_and]
    clear hc hw
    generalize Dg6 ty nu (Ab-Aa) ⟨mb,mi,ms⟩ ⟨xb,xi,xs⟩=R at *
    go_enter Tryz.func148,Tryz.ntmps148
    go_wp2_with fail
    (with_reducible refine(HT _).out.mono ?_);rintro e w1 ⟨rfl,Ac⟩
    obtain⟨⟨z0,z1,z2,z3,z4,z5,z6,z7,_⟩,⟨k0,k1,k2,k3⟩⟩:=HZ.out _ Ac
    simp only at z0 z1 z2 z3 z4 z5 z6 z7
    go_wp2_with fail
    (with_reducible refine(HC _).out.mono ?_);rintro e w2 ⟨rfl,Ae⟩
    clear z0 z1 z2 z3 z4 z5 z6 z7 k0 k1 k2 k3
    have Ad:=Aa0 Ac Ae
    obtain⟨⟨z0,z1,z2,z3,z4,z5,z6,z7,_⟩,⟨k0,k1,k2,k3⟩⟩:=HZ.out _ Ad
    simp only at z0 z1 z2 z3 z4 z5 z6 z7
    go_wp2_with fail
    (with_reducible refine(HD _).out.mono ?_);rintro e w3 ⟨rfl,Ag⟩
    have hB:=Aa0 (Aa0 HB.out Ad) Ag
    clear HB HZ z0 z1 z2 z3 z4 z5 z6 z7 k0 k1 k2 k3 Ac Ae Ad Ag
    cases R
    all_goals
     go_wp2
     go_ret
     exact RetB.mk rfl hB
   ·have Af:Dz1 nu Ab Aa=false:=by simpa using hc
    rw[Af] at HC⊢
    rw[Bool.false_and]
    clear hc Af
    go_enter Tryz.func148,Tryz.ntmps148
    go_wp2_with fail
    (with_reducible refine(HT _).out.mono ?_);rintro e w1 ⟨rfl,Ac⟩
    obtain⟨⟨z0,z1,z2,z3,z4,z5,z6,z7,_⟩,⟨k0,k1,k2,k3⟩⟩:=HZ.out _ Ac
    simp only at z0 z1 z2 z3 z4 z5 z6 z7
    go_wp2_with fail
    (with_reducible refine(HC _).out.mono ?_);rintro e w2 ⟨rfl,Ae⟩
    have hB:=Aa0 (Aa0 HB.out Ac) Ae
    clear HB HZ z0 z1 z2 z3 z4 z5 z6 z7 k0 k1 k2 k3
    go_wp2
    go_ret
    exact RetB.mk rfl hB
end Go.P
namespace Go.P
open RowKit VB VL VS ZN CK
end Go.P
