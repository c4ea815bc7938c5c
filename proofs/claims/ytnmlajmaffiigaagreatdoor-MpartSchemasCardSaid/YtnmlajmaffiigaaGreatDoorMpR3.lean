/- Layer 16, the statements' own: the walk over the reference's Encode. -/
import Derived.Test.YtnmlajmaffiigaaGreatDoorMpa
import Derived.Test.YtnmlajmaffiigaaGreatDoorMpb
import Derived.Test.YtnmlajmaffiigaaGreatDoorCkR1
import Derived.Test.YtnmlajmaffiigaaGreatDoorCkW1
import Derived.Test.YtnmlajmaffiigaaGreatDoorBt7b
import Derived.Test.YtnmlajmaffiigaaGreatDoorBt6
import Derived.Test.YtnmlajmaffiigaaGreatDoorZoW3
import Derived.Test.YtnmlajmaffiigaaGreatDoorBt2
import Derived.Test.YtnmlajmaffiigaaGreatDoorGa
set_option linter.constructorNameAsVariable false
set_option maxRecDepth 100000
set_option maxHeartbeats 2000000
open Go Go.Proofs Go.Proofs.YtnmlajmaffiigaaGreatDoor Go.P
namespace Go.MP
open RowKit VB VarM VS VL CK RS SC MK ZN
theorem Az6{P:Program}(a b:List UInt8)(h:a.length+b.length<=100000000):∀w,(Op.stringOp .add (str a) (str b)).run P w=.ok (.string (str (a++b))) w:=fun w=>by
 rw[run_string_add_sum w (str a) (str b) (by rw[Aa3,Aa3];omega),Ab8]
def reO(cs:List Col)(l:List Rc)(j:Nat):List UInt8:=mkB++(chs cs l j).flatten
def reL(cs:List Col)(l:List Rc)(j:Nat):List UInt8:=Ae4 (chs cs l j)
def reZ(cs:List Col)(l:List Rc)(j:Nat):List UInt8:=Ap4 (zns cs l j)
theorem Cp2(cs:List Col)(l:List Rc)(j:Nat):reO cs l (j+1)=reO cs l j++chB cs l j:=by
 unfold reO;rw[Bf2,List.flatten_append,List.append_assoc];simp
theorem Cp3(cs:List Col)(l:List Rc)(j:Nat):reL cs l (j+1)=reL cs l j++Aa4 (chB cs l j).length:=by unfold reL;rw[Bf2,As2]
theorem Eg0(cs:List Col)(l:List Rc)(j:Nat):reZ cs l (j+1)=reZ cs l j++Bs8 (zof (cs.getD j col0).ty (Go.RS.colL j l)):=by unfold reZ;rw[Bq8,Bf7]
section
variable {cs:List Col} {key:Int} {l:List Rc}
theorem reO_le(S:Srt cs key l)(hl:l.length<=1024)(hb:InR l){j:Nat}(hj:j<=13):(reO cs l j).length<=5000000:=by
 have h1:=Dv7 (ls:=chs cs l j) (b:=330004) fun b hb'=>by
  obtain⟨i,_,rfl⟩:=Ck2 hb'
  exact(Ar2 S.sch hl S.ok hb i).2
 rw[Av1] at h1
 unfold reO
 rw[Q5,Ab0]
 omega
theorem reL_le(S:Srt cs key l)(hl:l.length<=1024)(hb:InR l){j:Nat}(hj:j<=13):(reL cs l j).length<=130:=by
 have h1:(Ae4 (chs cs l j)).length<=(chs cs l j).length*10:=Bj9 fun b hb'=>by
  obtain⟨i,_,rfl⟩:=Ck2 hb'
  exact Aa5 (by have:=(Ar2 S.sch hl S.ok hb i).2;omega)
 rw[Av1] at h1
 unfold reL
 omega
theorem reZ_le(S:Srt cs key l)(hl:l.length<=1024)(hb:InR l){j:Nat}(hj:j<=cs.length):(reZ cs l j).length<=2280:=by
 have Ab:=(Ad7 S.sch).2.1
 have h1:(Ap4 (zns cs l j)).length<=(zns cs l j).length*190:=Bj9 fun z hz=>by
  obtain⟨i,hi,rfl⟩:=Dg9 hz
  have Aa:i<cs.length:=by omega
  exact(Er0 (ty:=(cs.getD i col0).ty) (l:=Go.RS.colL i l) (by rw[←Aj9 Aa,Af6];exact hl) (by rw[←Aj9 Aa];exact Bk6 S.sch S.ok hb i)).len
 rw[Az7] at h1
 unfold reZ
 omega
end
theorem Ey7{cs:List Col}{key:Int}{l:List Rc}{m:Nat}(hm:cs.length=m){F:List UInt8}(hF:F=Ad8 (IDN cs key)++Aa4 l.length++reL cs l (m+1)++reZ cs l m++Aj0 (Ac7 cs key l).lo (Ac7 cs key l).lq++Aj0 (Ac7 cs key l).hi (Ac7 cs key l).hq):
   F=Ay6 (IDN cs key) (chs cs l (m+1)) (Ac7 cs key l)/\reO cs l (m+1)++Ac3 F++Ad8 (Ac3 F).length++mkB=Aa9 cs key l:=by
 have h1:F=Ay6 (IDN cs key) (chs cs l (m+1)) (Ac7 cs key l):=by
  rw[hF]
  have e1:(Ac7 cs key l).rows=l.length:=rfl
  have e2:(Ac7 cs key l).zs=zns cs l m:=by rw[←hm];rfl
  unfold Ay6 reL reZ
  rw[e1,e2,List.append_assoc _ (Aj0 _ _) (Aj0 _ _)]
 refine⟨h1,?_⟩
 rw[h1]
 unfold Aa9 Bu8 reO
 rw[hm]
end Go.MP
namespace Go.P
open RowKit VB VarM BP VS VL SC CK Go.ST MK RS ZN MP
theorem Dm3(w:World):Calls Tryz.prog 50 #[] w (RetB (.agg #[.string ⟨#[115,101,113]⟩,.int .i64 1,.int .i64 0,.bool false]) w):=by
 go_enter Tryz.func50,Tryz.ntmps50
 go_wp2
 refine bodyPost_ret (v:=.agg #[.string ⟨#[115,101,113]⟩,.int .i64 1,.int .i64 0,.bool false]) (by simp[results,Tryz.results50,go_sem]) rfl ?_
 exact RetB.mk rfl (by go_grown)
theorem Ef4(z:Zn)(w:World)(h:ZBd z):Calls Tryz.prog 49 #[z.val] w (RetB (.string (str (Bs8 z))) w):=
 Dl7 z.rows z.nulls z.mn.nu z.mn.n z.mn.s z.mx.nu z.mx.n z.mx.s w (Go.MP.wf_bd ⟨by have:=h.r0;omega,by have:=h.r1;omega⟩) (Go.MP.wf_bd ⟨by have:=h.u0;omega,by have:=h.u1;omega⟩) (Go.MP.wf_bd h.mi) (Go.MP.wf_bd h.xi) (by have:=h.ms;omega) (by have:=h.xs;omega)
theorem Cz6(cs:List Col)(v:Value)(key:Int)(x:Value)(l:List Rc)(W:World)(hr:RdC W W.heap.size v cs)(hx:RdR W W.heap.size x l)(hi:InR l)(hE:An6 cs key l=0):
   Calls Tryz.prog 18 #[.agg #[v,.int .i64 key],x] W (RetB (.tuple #[.string (str (Aa9 cs key l)),.int .i64 0]) W):=by
 obtain⟨hc,hl,h0,hs⟩:=Dd6 hE
 have S:=By1 hs
 obtain⟨c0,Db,-,k0,k1⟩:=Ad7 hc
 have HR:=Hd hr;have HX:=Hd hx
 have Fg:IDN cs key<4294967296:=by rw[Bq6 hc];exact Aq8 _
 have HS:=Hd S;have HL:=Hd hl;have H0:=Hd h0;have HIR:=Hd hi;have HCH:=Hd hc
 have Gd:=Hd hs
 have HI:=Hd (Cb1 S hl h0 hi)
 obtain⟨xA,xc,xn,rfl,Da,Gr,Hg⟩:=hx.bds
 have HV:=Hd (Var2.new W v (.int .i64 key) 24)
 have Af:=Hd ((Q2 W.heap.size W).alloc (Q1 _) (.cells #[v,.int .i64 key] 24))
 have Dw:=Hd (show(W.alloc (.cells #[v,.int .i64 key] 24)).heap.size=W.heap.size+1 from by simp)
 obtain⟨W1,Ey⟩:∃W1,W.alloc (.cells #[v,.int .i64 key] 24)=W1:=⟨_,rfl⟩
 rw[Ey] at HV Af Dw
 have Ak:=Hd (fun(w:World)(h:Below W1.heap.size W1 w)=>HV.out.below h (by rw[Dw.out];omega))
 obtain⟨A,cc,rfl,-,-,Dl⟩:=hr
 have Bo:=Dm8 cs (.slice A cs.length cc) key W1 (HR.out.step Af.out)
 rw[hc] at Bo
 have Eg:=Hd Bo
 obtain⟨v0,v1,-,-⟩:=id HV.out
 have Gm:decide (1024<(xn:Int))=false:=Q3 (by omega)
 have Fh:decide (1024<xn)=false:=Q3 (by omega)
 have Gs:((xn:Int)==0)=false:=beq_eq_false_iff_ne.2 (by omega)
 have Gl:(xn==0)=false:=beq_eq_false_iff_ne.2 (by omega)
 have Ah:=Hd Da
 clear Bo hx hi hE hc hl h0 hs S Da
 generalize hm:cs.length=m at *
 have HM:=Hd hm
 have Fj:=Hd Dl
 clear hm Dl
 go_enter Tryz.func18,Tryz.ntmps18
 go_wp2_with fail
 (with_reducible refine Eg.out.mono ?_);rintro e w2 ⟨rfl,Ao⟩
 obtain⟨v0,v1,-,-⟩:=(Ak.out _ Ao)
 have Gg:=Hd Ao
 have Dh:=Hd (Bh0 cs (.slice A m cc) key (.slice xA xn xc) l w2 (HR.out.step (Aa0 Af.out Ao)) (HX.out.step (Aa0 Af.out Ao)))
 clear Eg Ao
 go_wp2_with fail
 (with_reducible refine Dh.out.mono ?_);rintro e w3 ⟨rfl,Cv⟩
 have Br:=Hd (Aa0 Gg.out Cv)
 obtain⟨v0,v1,-,-⟩:=(Ak.out _ Br.out)
 rw[Gd.out]
 have Bw:=Do0 (.slice xA xn xc) l m w3 (HX.out.step (Aa0 Af.out Br.out)) (by have:=HL.out;omega)
 rw[Bf0 (by omega) Db] at Bw
 have Er:=Hd Bw
 clear Dh Cv Bw
 go_wp2_with fail
 (with_reducible refine Er.out.mono ?_);rintro e w4 ⟨u,rfl,hu,Ct⟩
 obtain⟨ps,Bp,Cg⟩:=hu
 obtain⟨uA,uc,un,rfl,Dn,-,-⟩:=Bp.bds
 have Bh:=Cg.1
 rw[List.length_map,List.length_range] at Bh
 obtain rfl:m=un:=by rw[Dn,Bh]
 have Eb:=Hd Bh
 have Eh:=Hd Bp;have HDP:=Hd Cg
 have Bi:=Hd (Aa0 Br.out Ct)
 have Az:=Hd (Aa0 Af.out Bi.out)
 obtain⟨v0,v1,-,-⟩:=(Ak.out _ Bi.out)
 have Ez:=Az.out.size
 have Gq:=Bi.out.size
 clear Ct Bp Cg Bh Dn Er
 go_wp2_with fail
 have Ee:=Hd (show reO cs l 0=mkB by unfold reO chs;simp)
 have Dx:=Hd (show reL cs l 0=[] from rfl)
 have Ek:=Hd (show reZ cs l 0=[] from rfl)
 have Dc:(⟨#[77,80,84,49]⟩:ByteArray)=str (reO cs l 0):=by rw[Ee.out];rfl
 have En:(⟨#[]⟩:ByteArray)=str (reL cs l 0):=by rw[Dx.out];rfl
 have Dj:(⟨#[]⟩:ByteArray)=str (reZ cs l 0):=by rw[Ek.out];rfl
 have Fm:=Hd Dc;have HML:=Hd En;have HMZ:=Hd Dj
 clear Dc En Dj Ee Dx Ek
 have Be:=Hd (fun(j:Nat)(hj:j<=13)=>reO_le HS.out HL.out HIR.out (j:=j) hj)
 have Bc:=Hd (fun(j:Nat)(hj:j<=13)=>reL_le HS.out HL.out HIR.out (j:=j) hj)
 have Cj:=Hd (fun(j:Nat)(hj:j<=m)=>reZ_le HS.out HL.out HIR.out (j:=j) (by rw[HM.out];exact hj))
 have Cc:=Hd (fun(i:Nat)=>Ar2 HCH.out HL.out HS.out.ok HIR.out i)
 have Bl:=Hd (fun(i:Nat)(w:World)(u:Value)(hu:RdL w w.heap.size u (Bl9 cs l i))=>by
  have h:=Dm9 (Ak2 cs i).nm (Ak2 cs i).ty (Ak2 cs i).sc (Ak2 cs i).nu u (Bl9 cs l i) w hu (Dy9 HS.out.ok HIR.out i)
  rw[Dw5 (col_E HCH.out HL.out HS.out.ok i),col_E HCH.out HL.out HS.out.ok i] at h
  exact(show Calls Tryz.prog 47 #[.agg #[.string (Ak2 cs i).nm,.int .i64 (Ak2 cs i).ty,.int .i64 (Ak2 cs i).sc,.bool (Ak2 cs i).nu],u] w (RetB (.tuple #[.string (str (chB cs l i)),.int .i64 0]) w) from h))
 go_loopw[9,10,11,12,13,14,15,47] (fun ov lv zv _ _ _ _ iv wr=>∃j:Nat,iv=.int .i64 j/\j<=m/\ov=.string (str (reO cs l j))/\lv=.string (str (reL cs l j))/\zv=.string (str (reZ cs l j))/\Below w4.heap.size w4 wr) (fun _ _ _ _ _ _ _ iv _=>m-(intOf iv).toNat)
 case atStart=>exact⟨0,rfl,Nat.zero_le _,by rw[←Fm.out],by rw[←HML.out],by rw[←HMZ.out],Below.refl _ _⟩
 case round=>
  obtain⟨j,rfl,hj,rfl,rfl,rfl,Aa⟩:=hrel
  have Fr:=Hd Aa
  have Fk:=Aa.size
  have Ce:=Hd (Aa0 Bi.out Aa)
  have Fc:=Hd (Az.out.trans (Aa.mono Ez))
  obtain⟨v0,v1,-,-⟩:=(Ak.out _ Ce.out)
  by_cases hlt:j<m
  case neg=>
   obtain rfl:m=j:=by omega
   have Fb:decide ((m:Int)<(m:Int))=false:=Q3 (by omega)
   have De:=fun w(h:Below W.heap.size W w)=>Hd (Dm2 (.slice xA xn xc) l w (HX.out.below h |>.more h.size) (by have:=HL.out;omega))
   have Ad:Bl9 cs l m=Bs4 l:=At0 (by rw[HM.out];omega)
   have Ac:Ak2 cs m=seqC:=Ay9 (by rw[HM.out];omega)
   have Aj:=Hd (fun(w:World)(u:Value)(hu:RdL w w.heap.size u (Bs4 l))=>Bl.out m w u (by rw[Ad];exact hu))
   rw[Ac] at Aj
   replace Aj:=Hd (show ∀(w:World)(u:Value),RdL w w.heap.size u (Bs4 l)->Calls Tryz.prog 47 #[.agg #[.string ⟨#[115,101,113]⟩,.int .i64 1,.int .i64 0,.bool false],u] w (RetB (.tuple #[.string (str (chB cs l m)),.int .i64 0]) w) from Aj.out)
   have Bv:=Cc.out m
   have s1:=Cp2 cs l m
   have s2:=Cp3 cs l m
   have Ge:=Be.out (m+1) (by omega)
   have Fi:=Bc.out (m+1) (by omega)
   have Gk:=Cj.out m (Q1 _)
   have a1:=Az6 (P:=Tryz.prog) (reO cs l m) (chB cs l m) (by have:=Be.out m (by omega);omega)
   have a2:=Az6 (P:=Tryz.prog) (reL cs l m) (Aa4 (chB cs l m).length) (by have:=Bc.out m (by omega);have:=Aa5 (n:=(chB cs l m).length) (by omega);omega)
   rw[←s1] at a1
   rw[←s2] at a2
   have HP:=fun w=>Hd (Ac5 (chB cs l m).length w (by omega))
   have hu:IntKind.u64.wrap ((chB cs l m).length:Int)=((chB cs l m).length:Int):=IntWalk.u64_in _ ⟨by omega,by omega⟩
   have Gf:(str (chB cs l m)).size=(chB cs l m).length:=Aa3 _
   have A1:=Hd a1;have A2:=Hd a2
   clear Ad Ac Bv s1 s2 a1 a2 Bl Cc Be Bc Cj Eh HDP Eb
   generalize reO cs l m=O0 at *
   generalize reL cs l m=L0 at *
   generalize Cu:reO cs l (m+1)=O1 at *
   generalize Dk:reL cs l (m+1)=L1 at *
   generalize Cs:reZ cs l m=Z0 at *
   have Fz:=Hd Cu;have HLE:=Hd Dk;have HZE:=Hd Cs
   generalize chB cs l m=CB at *
   generalize CB.length=CN at *
   generalize Aa4 CN=PC at *
   generalize Bz:str CB=TB at *
   clear Bz Cu Dk Cs
   go_wp2_with fail
   (with_reducible refine(Dm3 _).mono ?_);rintro e w5 ⟨rfl,Dg⟩
   have Cz:=Hd (Aa0 Ce.out Dg)
   have Bu:=Hd (Aa0 Af.out Cz.out)
   have Df:=Hd (De _ Bu.out).out
   clear Dg De
   go_wp2_with fail
   (with_reducible refine Df.out.mono ?_);rintro e w6 ⟨q,rfl,hq,Au⟩
   obtain⟨qA,qn,qc,rfl⟩:=Bi1 hq
   have Dr:=Hd (Aj.out w6 _ (OwnL.read hq))
   have Fe:=Hd (Aa0 Cz.out Au)
   clear Au hq Df Aj
   go_wp2_with fail
   (with_reducible refine Dr.out.mono ?_);rintro e w7 ⟨rfl,Ej⟩
   have Fw:=Hd (Aa0 Fe.out Ej)
   have b1:=A1.out
   have b2:=A2.out
   clear Ej Dr
   go_wp2_with fail
   (with_reducible refine(HP _).out.mono ?_);rintro e w8 ⟨rfl,Dq⟩
   have Ci:=Hd (Aa0 Fw.out Dq)
   have Ae:=Hd (Aa0 Af.out Ci.out)
   have Ec:=Hd (fun(w:World)(h:Below w8.heap.size w8 w)=>Ak.out w (Aa0 Ci.out h))
   clear Dq
   have Gi:=Hd (fun(w:World)(h:Below W.heap.size W w)=>HX.out.below h |>.more h.size)
   obtain⟨p,hp⟩:∃p,xn=p+1:=⟨xn-1,by have:=H0.out;have:=Ah.out;omega⟩
   obtain⟨f1,f2⟩:=Ax7 H0.out
   obtain⟨g1,g2⟩:=Bh3 H0.out
   rw[show l.length-1=p by rw[←Ah.out];omega] at g1 g2
   have o0:=HS.out.ok _ f1
   have o1:=HS.out.ok _ g1
   have Al:Ac7 cs key l=⟨xn,zns cs l m,Ac9 key.toNat (l.getD 0 rc0),(l.getD 0 rc0).seq.toNat,Ac9 key.toNat (l.getD p rc0),(l.getD p rc0).seq.toNat⟩:=by
    unfold Ac7;rw[HM.out,←Ah.out,show xn-1=p by omega]
   have Bd:=Bi9 HCH.out HS.out.ok HIR.out f1
   have Bj:=Bi9 HCH.out HS.out.ok HIR.out g1
   obtain⟨a0,Eo,Dm,Aq,rfl,Fx,p0,p1,-,Ep⟩:=(HX.out.below Ae.out).at f2
   obtain⟨Gj,Ef,Et,Ar,Fu,Fv,p2,p3,-,Ea⟩:=(HX.out.below Ae.out).at g2
   cases Fu
   have Ax:=Ey7 (cs:=cs) (key:=key) (l:=l) HM.out rfl
   rw[Al] at Ax
   simp only at Ax
   rw[Fz.out,HLE.out,HZE.out,←Ah.out] at Ax
   generalize l.getD 0 rc0=R0 at *
   generalize l.getD p rc0=R1 at *
   have Cq:=Ae2 o0
   have Du:=Ae2 o1
   have Cw:=Af1 Cq.2.2
   have Dp:=Af1 Du.2.2
   obtain⟨kk,Gc⟩:∃kk:Nat,key=kk:=⟨key.toNat,by omega⟩
   subst Gc
   rw[Int.toNat_natCast] at *
   have Dd:=fun(w:World)(h:Below w8.heap.size w8 w)=>Hd (Bn8 cs (.slice A m cc) kk R0 (.slice Eo Dm Aq) w (((HR.out.below Ae.out).more Ae.out.size).step h) ((Ep.more Ae.out.size).step h) (by rw[Cw,HM.out];omega))
   have Cr:=fun(w:World)(h:Below w8.heap.size w8 w)=>Hd (Bn8 cs (.slice A m cc) kk R1 (.slice Ef Et Ar) w (((HR.out.below Ae.out).more Ae.out.size).step h) ((Ea.more Ae.out.size).step h) (by rw[Dp,HM.out];omega))
   obtain⟨n0,Ch⟩:∃n:Nat,R0.seq=n:=⟨R0.seq.toNat,by omega⟩
   obtain⟨n1,Ca⟩:∃n:Nat,R1.seq=n:=⟨R1.seq.toNat,by omega⟩
   have Bt:n0<=1099511627776:=by omega
   have Cm:n1<=1099511627776:=by omega
   rw[Ch,Ca,Int.toNat_natCast,Int.toNat_natCast] at Ax
   rw[Ch] at Dd p0
   rw[Ca] at Cr p2
   generalize Ac9 kk R0=V0 at *
   generalize Ac9 kk R1=V1 at *
   have l0:=Be1 Bd Bt
   have l1:=Be1 Bj Cm
   obtain⟨b0,i0,s0⟩:=V0
   obtain⟨Aw,i1,s1⟩:=V1
   have Bn:=fun w=>Hd (By7 b0 i0 s0 n0 w (Go.MP.wf_bd Bd.2) (Nat.le_trans Bd.1 (by decide)) (by omega))
   have Bq:=fun w=>Hd (By7 Aw i1 s1 n1 w (Go.MP.wf_bd Bj.2) (Nat.le_trans Bj.1 (by decide)) (by omega))
   have Gh:=fun w=>Hd (Ay5 (IDN cs kk) w Fg)
   have Fd:=fun w=>Hd (Ac5 xn w (by have:=HL.out;have:=Ah.out;omega))
   have Gz:IntKind.u64.wrap (xn:Int)=(xn:Int):=IntWalk.u64_in _ ⟨by omega,by have:=HL.out;have:=Ah.out;omega⟩
   have lx:=Aa5 (n:=xn) (by have:=HL.out;have:=Ah.out;omega)
   have c1:=Az6 (P:=Tryz.prog) (Ad8 (IDN cs kk)) (Aa4 xn) (by rw[Ab1];omega)
   have c2:=Az6 (P:=Tryz.prog) (Ad8 (IDN cs kk)++Aa4 xn) L1 (by simp only[Q5,Ab1];omega)
   have c3:=Az6 (P:=Tryz.prog) (Ad8 (IDN cs kk)++Aa4 xn++L1) Z0 (by simp only[Q5,Ab1];omega)
   have c4:=Az6 (P:=Tryz.prog) (Ad8 (IDN cs kk)++Aa4 xn++L1++Z0) (Aj0 ⟨b0,i0,s0⟩ n0) (by simp only[Q5,Ab1];omega)
   have c5:=Az6 (P:=Tryz.prog) (Ad8 (IDN cs kk)++Aa4 xn++L1++Z0++Aj0 ⟨b0,i0,s0⟩ n0) (Aj0 ⟨Aw,i1,s1⟩ n1) (by simp only[Q5,Ab1];omega)
   have Hb:(Ad8 (IDN cs kk)++Aa4 xn++L1++Z0++Aj0 ⟨b0,i0,s0⟩ n0++Aj0 ⟨Aw,i1,s1⟩ n1).length<=3000:=by simp only[Q5,Ab1];omega
   obtain⟨-,Ei⟩:=Ax
   generalize Ad8 (IDN cs kk)++Aa4 xn++L1++Z0++Aj0 ⟨b0,i0,s0⟩ n0++Aj0 ⟨Aw,i1,s1⟩ n1=F5 at *
   generalize Ad8 (IDN cs kk)++Aa4 xn++L1++Z0++Aj0 ⟨b0,i0,s0⟩ n0=F4 at *
   generalize Ad8 (IDN cs kk)++Aa4 xn++L1++Z0=F3 at *
   generalize Ad8 (IDN cs kk)++Aa4 xn++L1=F2 at *
   generalize Ad8 (IDN cs kk)++Aa4 xn=F1 at *
   generalize Ad8 (IDN cs kk)=F0 at *
   generalize Aa4 xn=PX at *
   generalize Aj0 ⟨b0,i0,s0⟩ n0=KA at *
   generalize Aj0 ⟨Aw,i1,s1⟩ n1=KB at *
   have Ds:=fun w=>Hd (Bp4 (str F5) w (by rw[Aa3];omega))
   have Ap:Ap1 (str F5).data.toList=Ap1 F5:=rfl
   rw[Ap] at Ds
   have Co:=Aq8 F5
   have Fo:=fun w=>Hd (Ay5 (Ap1 F5) w Co)
   have d1:=Az6 (P:=Tryz.prog) F5 (Ad8 (Ap1 F5)) (by rw[Ab1];omega)
   have Fn:=Ad5 F5
   have Em:F5++Ad8 (Ap1 F5)=Ac3 F5:=rfl
   rw[Em] at d1
   have d2:=Az6 (P:=Tryz.prog) O1 (Ac3 F5) (by omega)
   have d3:=Az6 (P:=Tryz.prog) (O1++Ac3 F5) (Ad8 (Ac3 F5).length) (by rw[Q5,Ab1];omega)
   have d4:∀w,(Op.stringOp .add (str (O1++Ac3 F5++Ad8 (Ac3 F5).length)) (⟨#[77,80,84,49]⟩:ByteArray)).run Tryz.prog w=.ok (.string (str (O1++Ac3 F5++Ad8 (Ac3 F5).length++mkB))) w:=Az6 _ mkB (by simp only[Q5,Ab1,Ab0];omega)
   rw[Ei] at d4
   have Eu:=fun w=>Hd (Ay5 (Ac3 F5).length w (by omega))
   have Gt:(str (Ac3 F5)).size=(Ac3 F5).length:=Aa3 _
   have Gp:IntKind.u32.wrap ((Ac3 F5).length:Int)=((Ac3 F5).length:Int):=by rw[IntKind.wrap_u32];omega
   generalize Aa9 cs (kk:Int) l=Fq at *
   generalize O1++Ac3 F5++Ad8 (Ac3 F5).length=Zz at *
   generalize O1++Ac3 F5=Zy at *
   generalize (Ac3 F5).length=SN at *
   generalize Ad8 SN=Gu at *
   generalize Fs:str (Ac3 F5)=TS at *
   generalize Ap1 F5=CR at *
   generalize Ad8 CR=Gv at *
   generalize Fp:str F5=T5 at *
   have D1:=Hd d1;have D2:=Hd d2;have D3:=Hd d3;have D4:=Hd d4
   have C1:=Hd c1;have C2:=Hd c2;have C3:=Hd c3;have C4:=Hd c4;have C5:=Hd c5
   rw[show p=xn-1 by omega] at p2 p3
   have Gw:=Hd hp
   rw[Nat.zero_mul,show a0.add 0=a0 from by unfold Addr.add;simp] at p0 p1
   have Gy:(0:Int)<(xn:Int):=by omega
   have Ga:0<xn:=by omega
   have Fl:=Hd (fun(w:World)(h:Below w8.heap.size w8 w)=>show(w.cell? a0=some (.int .i64 (n0:Int))/\w.cell? ⟨a0.block,a0.off+1,none⟩=some (.slice Eo Dm Aq)/\w.cell? (a0.add ((xn-1)*2))=some (.int .i64 (n1:Int))/\w.cell? ⟨(a0.add ((xn-1)*2)).block,(a0.add ((xn-1)*2)).off+1,none⟩=some (.slice Ef Et Ar))/\(w.cell? ⟨W.heap.size,0,none⟩=some (.slice A m cc)/\w.cell? ⟨W.heap.size,1,none⟩=some (.int .i64 (kk:Int))) from
    have hB:a0.block<w8.heap.size:=by have:=Ae.out.size;omega
    have Dt:(a0.add ((xn-1)*2)).block<w8.heap.size:=by rw[block_add];exact hB
    ⟨⟨by rw[h.cell hB];exact p0,by rw[h.cell (p:=⟨a0.block,_,none⟩) hB];exact p1,by rw[h.cell Dt];exact p2,by rw[h.cell (p:=⟨(a0.add ((xn-1)*2)).block,_,none⟩) Dt];exact p3⟩,⟨(Ec.out w h).c0,(Ec.out w h).c1⟩⟩)
   clear Fs Fp d1 d2 d3 d4 c1 c2 c3 c4 c5 hp f1 f2 g1 g2 o0 o1 Al Cq Du Cw Dp Ep Ea p0 p1 p2 p3 Fx Fv Ei Fn Em Ap Ch Ca Bd Bj
   have e1:=C1.out;have e2:=C2.out;have e3:=C3.out;have e4:=C4.out;have e5:=C5.out
   go_wp2_with fail
   refine Go.Confl.wp_region_confl (by simp only[List.map_cons,List.map_nil];rfl) (by kernel_rfl) (by kernel_rfl) ?_
   iterate 29
    first
    | (refine Go.Confl.chain_skip (Go.Confl.unwanted_is rfl rfl) ?_)
    | (first | apply Go.Confl.chain_is _ (Go.Confl.wanted_none rfl) | apply Go.Confl.chain_is _ (Go.Confl.wanted_is rfl rfl)
       ·intro b w hr hb K hK
        simp[Go.Confl.readFacts,Go.Confl.tmpsOf,Go.Confl.writerOf,Go.Confl.Is,Op.operands,Call.operands,List.findIdx?,List.findIdx?.go] at hr
        obtain⟨⟨y0,y1,y2,y3⟩,⟨y4,y5⟩⟩:=Fl.out _ hb
        go_wp2_with(first
         | (go_at_call 52;(with_reducible refine(Gh _).out.mono ?_);rintro e w' ⟨rfl,Ag⟩)
         | (go_at_call 48;(with_reducible refine(Fd _).out.mono ?_);rintro e w' ⟨rfl,Ag⟩)
         | (go_at_call 30;(with_reducible refine(Dd _ hb).out.mono ?_);rintro e w' ⟨rfl,Ag⟩)
         | (go_at_call 30;(with_reducible refine(Cr _ hb).out.mono ?_);rintro e w' ⟨rfl,Ag⟩)
         | (go_at_call 53;(with_reducible refine(Bn _).out.mono ?_);rintro e w' ⟨rfl,Ag⟩)
         | (go_at_call 53;(with_reducible refine(Bq _).out.mono ?_);rintro e w' ⟨rfl,Ag⟩))
        try(simp only[hr];go_wp2)
        exact hK _ _ rfl (by first | exact Below.refl _ _ | assumption))
    simp only[List.nil_append,List.cons_append]
   intro us w hp hb
   simp[Go.Confl.allPosts,Go.Confl.Is] at hp
   simp only[Go.Confl.putsFrom,hp,Act.put,List.setIfInBounds_toArray,List.set_cons_zero,List.set_cons_succ]
   obtain⟨w9,El⟩:∃w9,w9=w:=⟨_,rfl⟩
   rw[←El] at hb⊢
   have Gb:=Hd (Aa0 Ci.out hb)
   clear hp El hb e1 e2 e3 e4 e5
   have g1:=D1.out
   go_wp2_with fail
   (with_reducible refine(Ds _).out.mono ?_);rintro e Hc ⟨rfl,As⟩
   have Cn:=Hd (Aa0 Gb.out As)
   clear As
   go_wp2_with fail
   (with_reducible refine(Fo _).out.mono ?_);rintro e He ⟨rfl,Bb⟩
   have Cf:=Hd (Aa0 Cn.out Bb)
   have g2:=D2.out;have g3:=D3.out;have g4:=D4.out
   clear Bb
   go_wp2_with fail
   (with_reducible refine(Eu _).out.mono ?_);rintro e Hf ⟨rfl,Ai⟩
   have Bs:=Hd (Aa0 Cf.out Ai)
   clear Ai
   go_wp2_with fail
   refine bodyPost_ret (v:=.tuple #[.string (str Fq),.int .i64 0]) (by simp[results,Tryz.results18,go_sem]) rfl ?_
   exact RetB.mk rfl (Aa0 Af.out Bs.out)
  have Fb:decide ((j:Int)<(m:Int))=true:=Q4 (by omega)
  have Ev:decide (j<m)=true:=Q4 hlt
  have By:ps[j]?=some (ps[j]'(by rw[Eb.out];exact hlt)):=Q7 _
  have Cx:((List.range m).map fun c=>Go.RS.colL c l)[j]?=some (Go.RS.colL j l):=by rw[List.getElem?_map,List.getElem?_range hlt];rfl
  obtain⟨ad,Ex,Ft,Bf⟩:=((Eh.out.step Aa).at By)
  have Ba:=((HDP.out.step Aa)).2 j _ _ By Cx
  generalize ps[j]'_=P at Bf Ba
  obtain⟨pA,pn,pc⟩:=P
  subst Ex
  change wr.cell? (ad.add j)=some (Value.slice pA pn pc) at Bf
  change RdL wr wr.heap.size (Value.slice pA pn pc) _ at Ba
  obtain⟨Ha,rfl,Ck,Ed⟩:=Fj.out j hlt
  obtain⟨q0,q1,q2,q3⟩:=Ed.below Fc.out Ck
  have Ad:Bl9 cs l j=Go.RS.colL j l:=Aj9 (by rw[HM.out];exact hlt)
  have Ac:Ak2 cs j=cs.getD j col0:=Am3 (by rw[HM.out];exact hlt)
  have Bk:=Hd (fun(w:World)(h:Below wr.heap.size wr w)=>Bl.out j w (.slice pA pn pc) (by rw[Ad];exact Ba.step h))
  rw[Ac] at Bk
  have Ay:=Er1 HCH.out HL.out HS.out.ok HIR.out (zof (cs.getD j col0).ty (Go.RS.colL j l)) (List.mem_map.2 ⟨j,List.mem_range.2 (by rw[HM.out];exact hlt),rfl⟩)
  have s1:=Cp2 cs l j
  have s2:=Cp3 cs l j
  have s3:=Eg0 cs l j
  have Bv:=Cc.out j
  obtain⟨T,hT⟩:∃T,cs.getD j col0=T:=⟨_,rfl⟩
  rw[hT] at q0 q1 q2 q3 Bk Ay s3
  obtain⟨tn,tt,ts,tu⟩:=T
  simp only at q0 q1 q2 q3 Bk Ay s3
  have Dz:=fun(w:World)(h:Below wr.heap.size wr w)=>Ef5 tt (.slice pA pn pc) (Go.RS.colL j l) w (Ba.step h)
  have Cy:=fun(w:World)=>Ef4 (zof tt (Go.RS.colL j l)) w Ay
  have Ew:=Ay.len
  have a1:=Az6 (P:=Tryz.prog) (reO cs l j) (chB cs l j) (by have:=Be.out j (by omega);omega)
  have a2:=Az6 (P:=Tryz.prog) (reL cs l j) (Aa4 (chB cs l j).length) (by have:=Bc.out j (by omega);have:=Aa5 (n:=(chB cs l j).length) (by omega);omega)
  have a3:=Az6 (P:=Tryz.prog) (reZ cs l j) (Bs8 (zof tt (Go.RS.colL j l))) (by have:=Cj.out j (by omega);omega)
  rw[←s1] at a1
  rw[←s2] at a2
  rw[←s3] at a3
  have HP:=fun w=>Hd (Ac5 (chB cs l j).length w (by omega))
  have hu:IntKind.u64.wrap ((chB cs l j).length:Int)=((chB cs l j).length:Int):=IntWalk.u64_in _ ⟨by omega,by omega⟩
  have Gf:(str (chB cs l j)).size=(chB cs l j).length:=Aa3 _
  generalize zof tt (Go.RS.colL j l)=z at *
  obtain⟨zr,zu,⟨zb,zi,zt⟩,⟨xb,xi,xt⟩⟩:=z
  have Fy:=Hd (fun(w:World)(h:Below wr.heap.size wr w)=>show Calls Tryz.prog 28 #[.int .i64 tt,.slice pA pn pc] w (RetB (.agg #[.int .i64 zr,.int .i64 zu,.bool zb,.int .i64 zi,.string zt,.bool xb,.int .i64 xi,.string xt]) w) from Dz w h)
  have Fa:=Hd (fun(w:World)=>show Calls Tryz.prog 49 #[(.agg #[.int .i64 zr,.int .i64 zu,.bool zb,.int .i64 zi,.string zt,.bool xb,.int .i64 xi,.string xt])] w (RetB (.string (str (Bs8 ⟨zr,zu,⟨zb,zi,zt⟩,⟨xb,xi,xt⟩⟩))) w) from Cy w)
  obtain⟨O1,Cb⟩:∃F,reO cs l (j+1)=F:=⟨_,rfl⟩
  obtain⟨L1,Bx⟩:∃F,reL cs l (j+1)=F:=⟨_,rfl⟩
  obtain⟨Z1,Bm⟩:∃F,reZ cs l (j+1)=F:=⟨_,rfl⟩
  rw[Cb] at a1
  rw[Bx] at a2
  rw[Bm] at a3
  have Ff:=Hd Cb;have HL1:=Hd Bx;have HZ1:=Hd Bm
  have A1:=Hd a1;have A2:=Hd a2;have A3:=Hd a3
  have Ab:=Var4F.new wr (.string tn) (.int .i64 tt) (.int .i64 ts) (.bool tu) 62
  have Bg:=(Q2 wr.heap.size wr).alloc (Q1 _) (.cells #[.string tn,.int .i64 tt,.int .i64 ts,.bool tu] 62)
  obtain⟨X,hX⟩:∃X,wr.alloc (.cells #[.string tn,.int .i64 tt,.int .i64 ts,.bool tu] 62)=X:=⟨_,rfl⟩
  rw[hX] at Ab Bg
  have Cl:=Hd Bg
  have Di:=Hd (fun(w:World)(h:Below X.heap.size X w)=>show(w.cell? ⟨wr.heap.size,0,none⟩=some (.string tn)/\w.cell? ⟨wr.heap.size,1,none⟩=some (.int .i64 tt)/\w.cell? ⟨wr.heap.size,2,none⟩=some (.int .i64 ts)/\w.cell? ⟨wr.heap.size,3,none⟩=some (.bool tu))/\w.cell? (ad.add j)=some (.slice pA pn pc) from
   ⟨⟨(Ab.step h).c0,(Ab.step h).c1,(Ab.step h).c2,(Ab.step h).c3⟩,by rw[(Aa0 Bg h).cell (by rw[block_add];exact Ft)];exact Bf⟩)
  have Gn:(j:Int)<(m:Int):=by omega
  clear By Cx Ba Ed Ad Ac hT Ay s1 s2 s3 Bv Dz Cy Ew a1 a2 a3 Cb Bx Bm Ab Bg Aa
  generalize chB cs l j=CB at *
  generalize Bs8 ⟨zr,zu,⟨zb,zi,zt⟩,⟨xb,xi,xt⟩⟩=PZ at *
  generalize reO cs l j=O0 at *
  generalize reL cs l j=L0 at *
  generalize reZ cs l j=Z0 at *
  generalize CB.length=CN at *
  generalize Aa4 CN=PC at *
  generalize Bz:str CB=TB at *
  clear Bz
  go_wp2_with fail
  clear Bf q0 q1 q2 q3
  refine Go.Confl.wp_region_confl (by simp only[List.map_cons,List.map_nil];rfl) (by kernel_rfl) (by kernel_rfl) ?_
  iterate 11
   first
   | (refine Go.Confl.chain_skip (Go.Confl.unwanted_is rfl rfl) ?_)
   | (first | apply Go.Confl.chain_is _ (Go.Confl.wanted_none rfl) | apply Go.Confl.chain_is _ (Go.Confl.wanted_is rfl rfl)
      ·intro b w hr hb K hK
       simp[Go.Confl.readFacts,Go.Confl.tmpsOf,Go.Confl.writerOf,Go.Confl.Is,Op.operands,Call.operands,List.findIdx?,List.findIdx?.go] at hr
       obtain⟨⟨y0,y1,y2,y3⟩,y4⟩:=Di.out _ hb
       go_wp2_with(first
        | (go_at_call 47;(with_reducible refine(Bk.out _ (Aa0 Cl.out hb)).mono ?_);rintro e w' ⟨rfl,Ag⟩))
       try(simp only[hr];go_wp2)
       exact hK _ _ rfl (by first | exact Below.refl _ _ | assumption))
   simp only[List.nil_append,List.cons_append]
  intro us w hp hb
  simp[Go.Confl.allPosts,Go.Confl.Is] at hp
  simp only[Go.Confl.putsFrom,hp,Act.put,List.setIfInBounds_toArray,List.set_cons_zero,List.set_cons_succ]
  obtain⟨w5,Dy⟩:∃w5,w5=w:=⟨_,rfl⟩
  rw[←Dy] at hb⊢
  have Bu:=Hd hb
  clear hp Dy hb
  have b1:=A1.out
  have b2:=A2.out
  go_wp2_with fail
  (with_reducible refine(HP _).out.mono ?_);rintro e w6 ⟨rfl,Au⟩
  have Cd:=Hd (Aa0 Bu.out Au)
  have b3:=A3.out
  clear Au
  go_wp2_with fail
  refine Go.Confl.wp_region_confl (by simp only[List.map_cons,List.map_nil];rfl) (by kernel_rfl) (by kernel_rfl) ?_
  iterate 11
   first
   | (refine Go.Confl.chain_skip (Go.Confl.unwanted_is rfl rfl) ?_)
   | (first | apply Go.Confl.chain_is _ (Go.Confl.wanted_none rfl) | apply Go.Confl.chain_is _ (Go.Confl.wanted_is rfl rfl)
      ·intro b w hr hb K hK
       simp[Go.Confl.readFacts,Go.Confl.tmpsOf,Go.Confl.writerOf,Go.Confl.Is,Op.operands,Call.operands,List.findIdx?,List.findIdx?.go] at hr
       obtain⟨⟨y0,y1,y2,y3⟩,y4⟩:=Di.out _ (Aa0 Cd.out hb)
       go_wp2_with(first
        | (go_at_call 28;(with_reducible refine(Fy.out _ (Aa0 Cl.out (Aa0 Cd.out hb))).mono ?_);rintro e w' ⟨rfl,Ag⟩)
        | (go_at_call 49;(with_reducible refine(Fa.out _).mono ?_);rintro e w' ⟨rfl,Ag⟩))
       try(simp only[hr];go_wp2)
       exact hK _ _ rfl (by first | exact Below.refl _ _ | assumption))
   simp only[List.nil_append,List.cons_append]
  intro us w hp hb
  simp[Go.Confl.allPosts,Go.Confl.Is] at hp
  simp only[Go.Confl.putsFrom,hp,Act.put,List.setIfInBounds_toArray,List.set_cons_zero,List.set_cons_succ]
  obtain⟨w7,Dv⟩:∃w7,w7=w:=⟨_,rfl⟩
  rw[←Dv] at hb⊢
  have Es:=Hd (Aa0 Cl.out (Aa0 Cd.out hb))
  have Ae:=Hd (Below.trans (Aa0 Ce.out Es.out) (Below.refl _ _))
  clear hp Dv hb b1 b2 b3
  have Gx:m<=12:=Db
  have An:Below w4.heap.size w4 w7:=Fr.out.trans (Es.out.mono Fk)
  have Cp:=Hd An
  clear An
  go_wp2_with fail
  go_roundw
  case rel=>exact⟨j+1,by go_num,hlt,by rw[Ff.out],by rw[HL1.out],by rw[HZ1.out],Cp.out⟩
  case measure=>simp[intOf];omega
theorem Ax5(cs:List Col)(v:Value)(key:Int)(x:Value)(l:List Rc)(W:World)(hr:RdC W W.heap.size v cs)(hx:RdR W W.heap.size x l)(hi:InR l):
   Calls Tryz.prog 18 #[.agg #[v,.int .i64 key],x] W (RetB (.tuple #[.string (Fh7 cs key l),.int .i64 (An6 cs key l:Nat)]) W):=by
 by_cases hE:An6 cs key l=0
 ·rw[Bk2 hE,hE]
  exact Cz6 cs v key x l W hr hx hi hE
 rw[El6 hE]
 have HR:=Hd hr;have HX:=Hd hx
 obtain⟨xA,xc,xn,rfl,Af,-,-⟩:=hx.bds
 have HV:=Hd (Var2.new W v (.int .i64 key) 24)
 have Ab:=Hd ((Q2 W.heap.size W).alloc (Q1 _) (.cells #[v,.int .i64 key] 24))
 have Aj:=Hd (show(W.alloc (.cells #[v,.int .i64 key] 24)).heap.size=W.heap.size+1 from by simp)
 obtain⟨W1,Ak⟩:∃W1,W.alloc (.cells #[v,.int .i64 key] 24)=W1:=⟨_,rfl⟩
 rw[Ak] at HV Ab Aj
 have Aq:=Hd (fun(w:World)(h:Below W1.heap.size W1 w)=>HV.out.below h (by rw[Aj.out];omega))
 obtain⟨A,cc,rfl,-,-,-⟩:=hr
 have Ad:=Dm8 cs (.slice A cs.length cc) key W1 (HR.out.step Ab.out)
 obtain⟨v0,v1,-,-⟩:=id HV.out
 by_cases hc:Ad9 cs key=0
 ·rw[hc] at Ad
  have Ae:=Hd Ad
  by_cases h1:1024<l.length
  ·have Ac:=Hd (Dd7 hc h1)
   have Al:decide (1024<(xn:Int))=true:=Q4 (by omega)
   have Ah:decide (1024<xn)=true:=Q4 (by omega)
   clear Ad hx hi hE hc h1 Af
   generalize cs.length=m at *
   go_enter Tryz.func18,Tryz.ntmps18
   go_wp2_with fail
   (with_reducible refine Ae.out.mono ?_);rintro e w2 ⟨rfl,Aa⟩
   go_wp2_with fail
   refine bodyPost_ret (v:=.tuple #[.string ⟨#[]⟩,.int .i64 7]) (by simp[results,Tryz.results18,go_sem]) rfl ?_
   exact RetB.mk (by rw[Ac.out];rfl) (Aa0 Ab.out Aa)
  have Al:decide (1024<(xn:Int))=false:=Q3 (by omega)
  have Ah:decide (1024<xn)=false:=Q3 (by omega)
  by_cases h0:l.length=0
  ·have Ac:=Hd (Bk3 hc h1 (.inl h0))
   have An:((xn:Int)==0)=true:=beq_iff_eq.2 (by omega)
   have Ar:(xn==0)=true:=beq_iff_eq.2 (by omega)
   clear Ad hx hi hE hc h1 Af h0
   generalize cs.length=m at *
   go_enter Tryz.func18,Tryz.ntmps18
   go_wp2_with fail
   (with_reducible refine Ae.out.mono ?_);rintro e w2 ⟨rfl,Aa⟩
   go_wp2_with fail
   refine bodyPost_ret (v:=.tuple #[.string ⟨#[]⟩,.int .i64 1]) (by simp[results,Tryz.results18,go_sem]) rfl ?_
   exact RetB.mk (by rw[Ac.out];rfl) (Aa0 Ab.out Aa)
  have An:((xn:Int)==0)=false:=beq_eq_false_iff_ne.2 (by omega)
  have Ar:(xn==0)=false:=beq_eq_false_iff_ne.2 (by omega)
  have hs:Ak3 cs key l=false:=by
   cases h:Ak3 cs key l with
   | false=>rfl
   | true=>exact absurd (Bv1 h1 h0 h) hE
  have Ac:=Hd (Bk3 hc h1 (.inr hs))
  have Ap:=Hd hs
  clear Ad hx hi hE hc h1 Af h0 hs
  generalize cs.length=m at *
  go_enter Tryz.func18,Tryz.ntmps18
  go_wp2_with fail
  (with_reducible refine Ae.out.mono ?_);rintro e w2 ⟨rfl,Aa⟩
  obtain⟨v0,v1,-,-⟩:=(Aq.out _ Aa)
  have Au:=Hd Aa
  have Ag:=Bh0 cs (.slice A m cc) key (.slice xA xn xc) l w2 (HR.out.step (Aa0 Ab.out Aa)) (HX.out.step (Aa0 Ab.out Aa))
  rw[Ap.out] at Ag
  have Ao:=Hd Ag
  clear Ae Aa Ag
  go_wp2_with fail
  (with_reducible refine Ao.out.mono ?_);rintro e w3 ⟨rfl,Ai⟩
  have As:=Hd (Aa0 Au.out Ai)
  clear Ai
  go_wp2_with fail
  refine bodyPost_ret (v:=.tuple #[.string ⟨#[]⟩,.int .i64 1]) (by simp[results,Tryz.results18,go_sem]) rfl ?_
  exact RetB.mk (by rw[Ac.out];rfl) (Aa0 Ab.out As.out)
 ·have Ae:=Hd Ad
  have Ac:=Hd (Dw7 (l:=l) hc)
  have hd:((Ad9 cs key:Int)!=0)=true:=Ab5 (by omega)
  clear Ad hx hi hE hc Af
  generalize cs.length=m at *
  go_enter Tryz.func18,Tryz.ntmps18
  go_wp2_with fail
  (with_reducible refine Ae.out.mono ?_);rintro e w2 ⟨rfl,Aa⟩
  go_wp2_with fail
  refine bodyPost_ret (v:=.tuple #[.string ⟨#[]⟩,.int .i64 (Ad9 cs key:Nat)]) (by simp[results,Tryz.results18,go_sem]) rfl ?_
  exact RetB.mk (by rw[Ac.out]) (Aa0 Ab.out Aa)
end Go.P
