/- Layer 16: the walk over package mpart's getContents. -/
import Derived.Test.YtnmlajmaffiigaaGreatDoorMpG2
import Derived.Test.YtnmlajmaffiigaaGreatDoorMpc
import Derived.Test.YtnmlajmaffiigaaGreatDoorGd
set_option linter.constructorNameAsVariable false
set_option maxRecDepth 100000
set_option maxHeartbeats 2000000
open Go Go.Proofs Go.Proofs.YtnmlajmaffiigaaGreatDoor Go.P
namespace Go.MP
open RowKit VB VarM VS VL CK RS SC MK ZN
def Bp5(zv cv:Value)(f:Inf):List Value:=[.int .i64 (f.rows:Nat),zv,.bool f.lo.nu,.int .i64 f.lo.n,.string f.lo.s,.int .i64 (f.lq:Nat),.bool f.hi.nu,.int .i64 f.hi.n,.string f.hi.s,.int .i64 (f.hq:Nat),cv]
def Dy6(zv cv:Value)(f:Inf):Value:=.agg #[.int .i64 (f.rows:Nat),zv,.bool f.lo.nu,.int .i64 f.lo.n,.string f.lo.s,.int .i64 (f.lq:Nat),.bool f.hi.nu,.int .i64 f.hi.n,.string f.hi.s,.int .i64 (f.hq:Nat),cv]
def ConP(eZ eS:TypeId)(M:Nat)(G D:ByteArray)(W:World):Ending->World->Prop:=fun en w'=>∃(zv cv:Value)(f:Inf)(ks:List Nat)(ok:Bool),en=.returned (.tuple #[Dy6 zv cv f,.bool ok])/\Below W.heap.size W w'/\((∃A n c,zv=.slice A n c)/\∃A n c,cv=.slice A n c) /\
 (ok=true->Ai2 M G D.size=some ⟨f,ks⟩/\f.zs.length<=M/\f.rows<=1024/\OwnK zonL eZ w' W.heap.size zv f.zs/\OwnV Value.string eS w' W.heap.size cv (Aq0 D ks))/\(ok=false->Ai2 M G D.size=none)
theorem El5(D:ByteArray):D.extract 0 D.size=D:=by
 rw[Aa8,List.drop_zero,Nat.sub_zero,List.take_of_length_le (by rw[Aa1];exact Q1 _)];rfl
theorem Eo0{D X:ByteArray}{p k:Nat}(hX:D.extract p D.size=X)(hp:p<=D.size):X.extract 0 k=D.extract p (p+k):=by
 have t:Tail D X p:=⟨hp,hX.symm⟩
 exact t.cut 0 k
theorem En9{D X:ByteArray}{p k L:Nat}(hX:D.extract p D.size=X)(hL:X.size=L)(hp:p<=D.size):X.extract k L=D.extract (p+k) D.size:=by
 have t:Tail D X p:=⟨hp,hX.symm⟩
 rw[t.cut]
 have:=t.size
 rw[show p+L=D.size by omega]
end Go.MP
namespace Go.P
open RowKit VB VarM BP VS VL SC CK Go.ST MK RS ZN MP RL
theorem Dc4(cs:List Col)(v:Value)(key:Int)(G D:ByteArray)(W:World)(hr:RdC W W.heap.size v cs)(En:cs.length<=12)(hG:G.size<=140737488351232)(hD:D.size<=140737488351232):
   Calls Tryz.prog 105 #[.agg #[v,.int .i64 key],.string G,.string D] W (ConP 59 9 cs.length G D W):=by
 obtain⟨W0,Dp⟩:∃W0,W0=W:=⟨_,rfl⟩
 rw[←Dp] at hr⊢
 clear Dp
 have hV:=Var2.new W0 v (.int .i64 key) 24
 have Cw:=(Q2 W0.heap.size W0).alloc (Q1 _) (.cells #[v,.int .i64 key] 24)
 have Ci:(W0.alloc (.cells #[v,.int .i64 key] 24)).heap.size=W0.heap.size+1:=by simp
 obtain⟨A,cc,rfl,Ew,Fi,-⟩:=hr
 obtain⟨W1,Dn⟩:∃W1,W0.alloc (.cells #[.slice A cs.length cc,.int .i64 key] 24)=W1:=⟨_,rfl⟩
 rw[Dn] at hV Cw Ci
 have hI:=VarC.new W1 [.int .i64 0,.slice none 0 0,.bool false,.int .i64 0,.string ⟨#[]⟩,.int .i64 0,.bool false,.int .i64 0,.string ⟨#[]⟩,.int .i64 0,.slice none 0 0] 87
 have Ca:=(Q2 W1.heap.size W1).alloc (Q1 _) (.cells #[.int .i64 0,.slice none 0 0,.bool false,.int .i64 0,.string ⟨#[]⟩,.int .i64 0,.bool false,.int .i64 0,.string ⟨#[]⟩,.int .i64 0,.slice none 0 0] 87)
 have Cd:(W1.alloc (.cells #[.int .i64 0,.slice none 0 0,.bool false,.int .i64 0,.string ⟨#[]⟩,.int .i64 0,.bool false,.int .i64 0,.string ⟨#[]⟩,.int .i64 0,.slice none 0 0] 87)).heap.size=W0.heap.size+2:=by simp[Ci]
 obtain⟨W2,Ep⟩:∃W2,W1.alloc (.cells #[.int .i64 0,.slice none 0 0,.bool false,.int .i64 0,.string ⟨#[]⟩,.int .i64 0,.bool false,.int .i64 0,.string ⟨#[]⟩,.int .i64 0,.slice none 0 0] 87)=W2:=⟨_,rfl⟩
 change VarC (W1.alloc (.cells #[.int .i64 0,.slice none 0 0,.bool false,.int .i64 0,.string ⟨#[]⟩,.int .i64 0,.bool false,.int .i64 0,.string ⟨#[]⟩,.int .i64 0,.slice none 0 0] 87)) _ _ at hI
 rw[Ep] at hI Ca Cd
 have hR:=VarC.new W2 (Bf5 G 0 false) 181
 have Bz:=(Q2 W2.heap.size W2).alloc (Q1 _) (.cells #[.string G,.int .i64 0,.bool false] 181)
 have Ex:(W2.alloc (.cells #[.string G,.int .i64 0,.bool false] 181)).heap.size=W0.heap.size+3:=by simp[Cd]
 obtain⟨W3,Cr⟩:∃W3,W2.alloc (.cells #[.string G,.int .i64 0,.bool false] 181)=W3:=⟨_,rfl⟩
 change VarC (W2.alloc (.cells #[.string G,.int .i64 0,.bool false] 181)) _ _ at hR
 rw[Cr] at hR Bz Ex
 have Cl:=hI.step Bz
 have Aj:Below W1.heap.size W1 W3:=Ca.trans (Bz.mono (by omega))
 rw[Ci] at Cl Aj
 rw[Cd] at hR
 have Ds:=Hd hV;have HB01:=Hd Cw;have HI3:=Hd Cl;have HR3:=Hd hR;have HB13:=Hd Aj
 have De:=Hd (Ba7 (W0.heap.size+2) G 0 false 1024 W3 hR (by unfold maxLen;omega) (by decide) 1024 rfl)
 have Eh:=Hd (fun(a:Int)(fl:Bool)(lim:Nat)(w:World)(hv:VarC w (W0.heap.size+2) (Bf5 G a fl))(hl:lim<=140737488351232)=>Ba7 (W0.heap.size+2) G a fl lim w hv (by unfold maxLen;omega) (by omega) (lim:Int) rfl)
 have Fa:=Hd (fun(a:Int)(fl:Bool)(w:World)(hv:VarC w (W0.heap.size+2) (Bf5 G a fl))=>Dj2 (W0.heap.size+2) G a fl w hv (by omega) (.func (.func 146) #[] #[]) rfl)
 have Dt:=Hd (fun(a:Int)(fl:Bool)(w:World)(hv:VarC w (W0.heap.size+2) (Bf5 G a fl))=>Eg1 (W0.heap.size+2) G a fl w hv (by omega))
 have Ec:=Hd hD
 obtain⟨M,hM⟩:∃M,cs.length=M:=⟨_,rfl⟩
 rw[hM] at En⊢ hV Ds Dn Ew
 have Fg:wrap64 ((M:Int)+1)=(M:Int)+1:=by unfold wrap64;omega
 have Ct:W0.heap.size<W1.heap.size:=by omega
 obtain⟨v0,v1,-,-⟩:=hV.below Aj (by omega)
 have Ey:=Hd Cr
 clear hV Cw hI Ca hR Bz Cl Aj hG hD Ct Cr Ds
 go_enter Tryz.func105,Tryz.ntmps105
 go_wp2_with fail
 rw[Ey.out]
 (with_reducible refine De.out.mono ?_);rintro e w4 ⟨n,a,fl,rfl,Ao,Ad,Ae⟩
 have Df:=Hd (kinv0 (M:=M) (D:=D.size) Ae)
 have hn:=Ae.1
 have Bs:=HI3.out.gb Ad (by omega)
 have Fj:=Ad.size
 have Dk:Below (W0.heap.size+1) W1 w4:=Ad.below HB13.out (by omega) (by omega)
 have Cj:=Bs.set (k:=0) (show 0<11 by decide) (.int .i64 (n:Int))
 have Az:=Ao.other (c:=W0.heap.size+1) (by omega) 0 (.int .i64 (n:Int))
 have Bu:=Dk.setCell (p:=⟨W0.heap.size+1,0,none⟩) (Q1 _) (.int .i64 (n:Int))
 have c0:=Bs.c 0 _ rfl
 have f0:=Bs.fr 0 (show 0<11 by decide)
 obtain⟨w5,Dq⟩:∃w5,w4.setCell ⟨W0.heap.size+1,0,none⟩ (.int .i64 (n:Int))=w5:=⟨_,rfl⟩
 rw[Dq] at Cj Az Bu
 have Fe:w5.heap.size=w4.heap.size:=by rw[←Dq,World.size_setCell]
 have Dj:=Hd Cj;have HR5:=Hd Az;have HB5:=Hd Bu
 have u0:=(Bu.cell (p:=⟨W0.heap.size,0,none⟩) (by show W0.heap.size<_;omega)).trans ((HB13.out.cell (p:=⟨W0.heap.size,0,none⟩) (by show W0.heap.size<_;omega)).symm.trans v0)
 have Bk:=Hd (show W0.heap.size+3<=w5.heap.size by omega)
 have U0:=Hd v0
 clear Ae Bs Dk Cj Az Bu HI3 HR3 De Ao Ad v0 v1
 go_wp2_with fail
 clear u0
 go_loopw[2,9,19] (fun dv _ iv wr=>∃(j:Nat)(ks:List Nat)(a:Int)(fl:Bool)(cv:Value),iv=.int .i64 j/\j<=M+1/\Hid (ks.length=j)/\Hid (ks.sum<=D.size)/\dv=.string (D.extract ks.sum D.size)/\Hid (KInv M G D.size n ks j a fl) /\
  Hid (VarC wr (W0.heap.size+1) [.int .i64 (n:Nat),.slice none 0 0,.bool false,.int .i64 0,.string ⟨#[]⟩,.int .i64 0,.bool false,.int .i64 0,.string ⟨#[]⟩,.int .i64 0,cv])/\Hid (VarC wr (W0.heap.size+2) (Bf5 G a fl))/\OwnV Value.string 9 wr (W0.heap.size+3) cv (Aq0 D ks)/\Hid (Below (W0.heap.size+1) W1 wr)/\W0.heap.size+3<=wr.heap.size) (fun _ _ iv _=>M+1-(intOf iv).toNat)
 case atStart=>exact⟨0,[],a,fl,.slice none 0 0,rfl,Nat.zero_le _,Hd rfl,Hd (Nat.zero_le _),by rw[List.sum_nil,El5],Df,Dj,HR5,OwnV.nil _ _ _ _,HB5,Bk.out⟩
 case round=>
  obtain⟨j,ks,a,fl,cv,rfl,hj,Cu,Bl,rfl,HK,HI,HR,Aq,HB,Bv⟩:=hrel
  by_cases hlt:j<M+1
  case neg=>
   obtain rfl:j=M+1:=by omega
   have Cz:decide (((M+1:Nat):Int)<(M:Int)+1)=false:=Q3 (by omega)
   have Bj:decide ((M:Int)+1<(M:Int)+1)=false:=Q3 (by omega)
   obtain⟨WO,Dh⟩:∃WO,WO=wr:=⟨_,rfl⟩
   rw[←Dh] at HI HR Aq HB Bv⊢
   clear Dh
   obtain⟨cA,Ab,cn,rfl,Dg,-,-⟩:=Aq.read.bds
   have Fb:=Hd Dg
   obtain⟨X,hX⟩:∃X,D.extract ks.sum D.size=X:=⟨_,rfl⟩
   rw[hX,show((M+1:Nat):Int)=(M:Int)+1 from rfl]
   have HX:=Hd hX
   have Di:=Hd (zinv0 HK.out)
   have Ai:=Hd Aq;have HI1:=HI;have HR1:=HR;have HB1:=HB
   have u0:=(HB.out.cell (p:=⟨W0.heap.size,0,none⟩) (by show W0.heap.size<_;omega)).trans ((HB13.out.cell (p:=⟨W0.heap.size,0,none⟩) (by show W0.heap.size<_;omega)).symm.trans U0.out)
   clear HK HI HR HB Aq Dg hX Dj HR5 HB5 Bk Df
   go_wp2_with fail
   clear u0
   go_loopw[39] (fun iv wr=>∃(j:Nat)(zs:List Zn)(a:Int)(fl:Bool)(zv:Value),iv=.int .i64 j/\j<=M/\Hid (zs.length=j)/\Hid (ZInv M G D.size n ks zs j a fl) /\
    Hid (VarC wr (W0.heap.size+1) [.int .i64 (n:Nat),zv,.bool false,.int .i64 0,.string ⟨#[]⟩,.int .i64 0,.bool false,.int .i64 0,.string ⟨#[]⟩,.int .i64 0,.slice cA cn Ab])/\Hid (VarC wr (W0.heap.size+2) (Bf5 G a fl))/\OwnK zonL 59 wr (W0.heap.size+3) zv zs/\Hid (OwnV Value.string 9 wr (W0.heap.size+3) (.slice cA cn Ab) (Aq0 D ks))/\Hid (Below (W0.heap.size+1) W1 wr)/\W0.heap.size+3<=wr.heap.size) (fun iv _=>M-(intOf iv).toNat)
   case atStart=>exact⟨0,[],a,fl,.slice none 0 0,rfl,Nat.zero_le _,Hd rfl,Di,HI1,HR1,OwnK.nil _ _ _ _,Ai,HB1,Bv⟩
   case round=>
    clear Di HI1 HR1 Ai HB1
    obtain⟨j,zs,a,fl,zv,rfl,hj,Bf,HZ,HI,HR,Bc,Ai,HB,Bv⟩:=hrel
    by_cases hlt:j<M
    case neg=>
     obtain rfl:j=M:=by omega
     have Cz:decide ((j:Int)<(j:Int))=false:=Q3 (by omega)
     obtain⟨zA,zc,zn,rfl,Dd,-,-⟩:=(OwnK.read Bc).bds
     have Fd:=Hd Dd
     have Bp:=Hd Bc
     have Bt:=Hd (Dt.out a fl wr HR.out)
     obtain⟨W5,Dx⟩:∃W5,W5=wr:=⟨_,rfl⟩
     rw[←Dx] at HI HR Bp Ai HB Bv Bt⊢
     clear Dx Bc Dd
     go_wp2_with fail
     (with_reducible refine Bt.out.mono ?_);rintro e w6 ⟨⟨lb,ln,lt⟩,lq,a1,f1,rfl,Dy,Au,An⟩
     have HL:=Hd (Fb6 HZ.out An)
     have Fc:=Au.size
     have Af:=HI.out.gb Au (by omega)
     have c2:=Af.c 2 _ rfl;have c3:=Af.c 3 _ rfl;have c4:=Af.c 4 _ rfl;have c5:=Af.c 5 _ rfl
     have f2:=Af.fr 2 (show 2<11 by decide);have f3:=Af.fr 3 (show 3<11 by decide);have f4:=Af.fr 4 (show 4<11 by decide);have f5:=Af.fr 5 (show 5<11 by decide)
     have Cv:=Af.putC [.bool lb,.int .i64 ln,.string lt,.int .i64 (lq:Int)] 2 (show 6<=11 by decide)
     have Cq:=Dy.oputC (c:=W0.heap.size+1) (by omega) [.bool lb,.int .i64 ln,.string lt,.int .i64 (lq:Int)] 2
     have Cn:OwnK zonL 59 _ _ _ _:=Af2 (g:=W0.heap.size+1) (by omega) [.bool lb,.int .i64 ln,.string lt,.int .i64 (lq:Int)] 2 (Bi0 Bp.out Au (by omega))
     have Co:OwnV Value.string 9 _ _ _ _:=Af2 (g:=W0.heap.size+1) (by omega) [.bool lb,.int .i64 ln,.string lt,.int .i64 (lq:Int)] 2 (Bi0 Ai.out Au (by omega))
     have Bb:=Ag2 (g:=W0.heap.size+1) [.bool lb,.int .i64 ln,.string lt,.int .i64 (lq:Int)] 2 (Au.below HB.out (by omega) (by omega)) (Q1 _)
     have Es:(putC w6 (W0.heap.size+1) 2 [.bool lb,.int .i64 ln,.string lt,.int .i64 (lq:Int)]).heap.size=w6.heap.size:=by simp[putC]
     obtain⟨w7,Cm⟩:∃w7,putC w6 (W0.heap.size+1) 2 [.bool lb,.int .i64 ln,.string lt,.int .i64 (lq:Int)]=w7:=⟨_,rfl⟩
     rw[Cm] at Cv Cq Cn Co Bb Es
     have Cs:((((w6.setCell ⟨W0.heap.size+1,2,none⟩ (.bool lb)).setCell ⟨W0.heap.size+1,3,none⟩ (.int .i64 ln)).setCell ⟨W0.heap.size+1,4,none⟩ (.string lt)).setCell ⟨W0.heap.size+1,5,none⟩ (.int .i64 (lq:Int)))=w7:=Cm
     have Bq:=Hd (show VarC w7 (W0.heap.size+1) [.int .i64 (n:Nat),.slice zA zn zc,.bool lb,.int .i64 ln,.string lt,.int .i64 (lq:Int),.bool false,.int .i64 0,.string ⟨#[]⟩,.int .i64 0,.slice cA cn Ab] from Cv)
     have Ez:=Hd (Dt.out a1 f1 w7 Cq)
     have Eo:=Hd Cn;have HC7:=Hd Co;have HB7:=Hd Bb
     have Bm:W0.heap.size+3<=w7.heap.size:=by omega
     clear Cm Af Cv Cq Cn Co Bb Dy Au An HI HR Bp Ai HB HZ
     go_wp2_with fail
     (with_reducible refine Ez.out.mono ?_);rintro e w8 ⟨⟨qb,qn,qt⟩,hq,a2,Br,rfl,Ao,Ad,Ap⟩
     have HH:=Hd (Fc7 HL.out Ap)
     have Bw:=Ad.size
     have Ac:=Bq.out.gb Ad (by omega)
     clear c2 c3 c4 c5 f2 f3 f4 f5
     have c6:=Ac.c 6 _ rfl;have c7:=Ac.c 7 _ rfl;have c8:=Ac.c 8 _ rfl;have c9:=Ac.c 9 _ rfl
     have g6:=Ac.fr 6 (show 6<11 by decide);have g7:=Ac.fr 7 (show 7<11 by decide);have g8:=Ac.fr 8 (show 8<11 by decide);have g9:=Ac.fr 9 (show 9<11 by decide)
     have Da:=Ac.putC [.bool qb,.int .i64 qn,.string qt,.int .i64 (hq:Int)] 6 (show 10<=11 by decide)
     have Bd:=Ao.oputC (c:=W0.heap.size+1) (by omega) [.bool qb,.int .i64 qn,.string qt,.int .i64 (hq:Int)] 6
     have Cx:OwnK zonL 59 _ _ _ _:=Af2 (g:=W0.heap.size+1) (by omega) [.bool qb,.int .i64 qn,.string qt,.int .i64 (hq:Int)] 6 (Bi0 Eo.out Ad (by omega))
     have As:OwnV Value.string 9 _ _ _ _:=Af2 (g:=W0.heap.size+1) (by omega) [.bool qb,.int .i64 qn,.string qt,.int .i64 (hq:Int)] 6 (Bi0 HC7.out Ad (by omega))
     have Ck:=Ag2 (g:=W0.heap.size+1) [.bool qb,.int .i64 qn,.string qt,.int .i64 (hq:Int)] 6 (Ad.below HB7.out (by omega) (by omega)) (Q1 _)
     obtain⟨w9,Ce⟩:∃w9,putC w8 (W0.heap.size+1) 6 [.bool qb,.int .i64 qn,.string qt,.int .i64 (hq:Int)]=w9:=⟨_,rfl⟩
     rw[Ce] at Da Bd Cx As Ck
     have Eb:((((w8.setCell ⟨W0.heap.size+1,6,none⟩ (.bool qb)).setCell ⟨W0.heap.size+1,7,none⟩ (.int .i64 qn)).setCell ⟨W0.heap.size+1,8,none⟩ (.string qt)).setCell ⟨W0.heap.size+1,9,none⟩ (.int .i64 (hq:Int)))=w9:=Ce
     clear Cs
     have Aw:VarC w9 (W0.heap.size+1) [.int .i64 (n:Nat),.slice zA zn zc,.bool lb,.int .i64 ln,.string lt,.int .i64 (lq:Int),.bool qb,.int .i64 qn,.string qt,.int .i64 (hq:Int),.slice cA cn Ab]:=Da
     have Aa:=Hd Aw;have HR9:=Hd Bd
     have hx:=Aw.putC [.int .i64 (n:Nat),.slice zA zn zc,.bool lb,.int .i64 ln,.string lt,.int .i64 (lq:Int),.bool qb,.int .i64 qn,.string qt,.int .i64 (hq:Int),.slice cA cn Ab] 0 (show 11<=11 by decide)
     have Cp:OwnK zonL 59 _ _ _ _:=Af2 (g:=W0.heap.size+1) (by omega) [.int .i64 (n:Nat),.slice zA zn zc,.bool lb,.int .i64 ln,.string lt,.int .i64 (lq:Int),.bool qb,.int .i64 qn,.string qt,.int .i64 (hq:Int),.slice cA cn Ab] 0 Cx
     have Cb:OwnV Value.string 9 _ _ _ _:=Af2 (g:=W0.heap.size+1) (by omega) [.int .i64 (n:Nat),.slice zA zn zc,.bool lb,.int .i64 ln,.string lt,.int .i64 (lq:Int),.bool qb,.int .i64 qn,.string qt,.int .i64 (hq:Int),.slice cA cn Ab] 0 As
     have Ch:=Ag2 (g:=W0.heap.size+1) [.int .i64 (n:Nat),.slice zA zn zc,.bool lb,.int .i64 ln,.string lt,.int .i64 (lq:Int),.bool qb,.int .i64 qn,.string qt,.int .i64 (hq:Int),.slice cA cn Ab] 0 Ck (Q1 _)
     obtain⟨wx,Db⟩:∃wx,putC w9 (W0.heap.size+1) 0 [.int .i64 (n:Nat),.slice zA zn zc,.bool lb,.int .i64 ln,.string lt,.int .i64 (lq:Int),.bool qb,.int .i64 qn,.string qt,.int .i64 (hq:Int),.slice cA cn Ab]=wx:=⟨_,rfl⟩
     rw[Db] at hx Cp Cb Ch
     have Ek:(((((((((((w9.setCell ⟨W0.heap.size+1,0,none⟩ (.int .i64 (n:Nat))).setCell ⟨W0.heap.size+1,1,none⟩ (.slice zA zn zc)).setCell ⟨W0.heap.size+1,2,none⟩ (.bool lb)).setCell ⟨W0.heap.size+1,3,none⟩ (.int .i64 ln)).setCell ⟨W0.heap.size+1,4,none⟩ (.string lt)).setCell ⟨W0.heap.size+1,5,none⟩ (.int .i64 (lq:Int))).setCell ⟨W0.heap.size+1,6,none⟩ (.bool qb)).setCell ⟨W0.heap.size+1,7,none⟩ (.int .i64 qn)).setCell ⟨W0.heap.size+1,8,none⟩ (.string qt)).setCell ⟨W0.heap.size+1,9,none⟩ (.int .i64 (hq:Int))).setCell ⟨W0.heap.size+1,10,none⟩ (.slice cA cn Ab))=wx:=Db
     have Dz:VarC wx (W0.heap.size+1) [.int .i64 (n:Nat),.slice zA zn zc,.bool lb,.int .i64 ln,.string lt,.int .i64 (lq:Int),.bool qb,.int .i64 qn,.string qt,.int .i64 (hq:Int),.slice cA cn Ab]:=hx
     have Ah:=Hd Dz;have HZX:=Hd Cp;have HCX:=Hd Cb
     have El:=Hd (show Below W0.heap.size W0 wx from HB01.out.trans (Ch.mono (Nat.le_succ _)))
     have r0:=Bd.c 0 _ rfl;have r1:=Bd.c 1 _ rfl;have r2:=Bd.c 2 _ rfl
     have x0:=Aa.out.c 0 _ rfl;have y0:=Aa.out.fr 0 (show 0<11 by decide);have x1:=Aa.out.c 1 _ rfl;have y1:=Aa.out.fr 1 (show 1<11 by decide);have x2:=Aa.out.c 2 _ rfl;have y2:=Aa.out.fr 2 (show 2<11 by decide);have x3:=Aa.out.c 3 _ rfl;have y3:=Aa.out.fr 3 (show 3<11 by decide);have x4:=Aa.out.c 4 _ rfl;have y4:=Aa.out.fr 4 (show 4<11 by decide);have x5:=Aa.out.c 5 _ rfl;have y5:=Aa.out.fr 5 (show 5<11 by decide);have x6:=Aa.out.c 6 _ rfl;have y6:=Aa.out.fr 6 (show 6<11 by decide);have x7:=Aa.out.c 7 _ rfl;have y7:=Aa.out.fr 7 (show 7<11 by decide);have x8:=Aa.out.c 8 _ rfl;have y8:=Aa.out.fr 8 (show 8<11 by decide);have x9:=Aa.out.c 9 _ rfl;have y9:=Aa.out.fr 9 (show 9<11 by decide);have x10:=Aa.out.c 10 _ rfl;have y10:=Aa.out.fr 10 (show 10<11 by decide)
     have m0:=Ah.out.c 0 _ rfl;have m1:=Ah.out.c 1 _ rfl;have m2:=Ah.out.c 2 _ rfl;have m3:=Ah.out.c 3 _ rfl;have m4:=Ah.out.c 4 _ rfl;have m5:=Ah.out.c 5 _ rfl;have m6:=Ah.out.c 6 _ rfl;have m7:=Ah.out.c 7 _ rfl;have m8:=Ah.out.c 8 _ rfl;have m9:=Ah.out.c 9 _ rfl;have m10:=Ah.out.c 10 _ rfl
     have Bo:=Hd (@Fc6 j G D.size n ks zs a2 Br ⟨lb,ln,lt⟩ ⟨qb,qn,qt⟩ lq hq HH.out)
     have Bi:=Hd (@Fc8 j G D.size n ks zs a2 Br ⟨lb,ln,lt⟩ ⟨qb,qn,qt⟩ lq hq HH.out)
     have Ak:=Hd (show ∀(ok:Bool),((ok=true->Br=false/\a2=(G.size:Int)/\ks.sum=D.size)/\(ok=false->Br=true\/a2≠(G.size:Int)\/ks.sum≠D.size))->ConP 59 9 j G D W0 (.returned (.tuple #[.agg #[.int .i64 (n:Nat),.slice zA zn zc,.bool lb,.int .i64 ln,.string lt,.int .i64 (lq:Int),.bool qb,.int .i64 qn,.string qt,.int .i64 (hq:Int),.slice cA cn Ab],.bool ok])) wx from fun ok⟨h1,h2⟩=>
      ⟨.slice zA zn zc,.slice cA cn Ab,⟨n,zs,⟨lb,ln,lt⟩,lq,⟨qb,qn,qt⟩,hq⟩,ks,ok,rfl,El.out,⟨⟨_,_,_,rfl⟩,⟨_,_,_,rfl⟩⟩,fun h=>⟨Bo.out (h1 h).1 (h1 h).2.1 (h1 h).2.2,by rw[Bf.out];exact Q1 _,hn,OwnK.lower HZX.out (by omega),OwnV.lower HCX.out (by omega)⟩,fun h=>Bi.out (h2 h)⟩)
     have Dr:X.toList.isEmpty=decide (ks.sum=D.size):=by
      rw[←HX.out,Bool.eq_iff_iff,decide_eq_true_iff,List.isEmpty_iff,ByteArray.toList_eq]
      have hz:(D.extract ks.sum D.size).data.toList.length=D.size-ks.sum:=by rw[Aa1,ByteArray.size_extract];omega
      rw[←List.length_eq_zero_iff,hz]
      have:=Bl.out
      omega
     clear Da Bd Cx As Ck hx Cp Cb Ch Db Dz Aw Ce Ac Ao Ad Ap Bo Bi HX
     cases Br with
     | true=>
       go_wp2_with fail
       refine bodyPost_ret (v:=.tuple #[.agg #[.int .i64 (n:Nat),.slice zA zn zc,.bool lb,.int .i64 ln,.string lt,.int .i64 (lq:Int),.bool qb,.int .i64 qn,.string qt,.int .i64 (hq:Int),.slice cA cn Ab],.bool false]) (by simp[results,Tryz.results105,go_sem,m0,m1,m2,m3,m4,m5,m6,m7,m8,m9,m10]) rfl ?_
       exact Ak.out false ⟨fun h=>(by cases h),fun _=>.inl (by first | rfl | trivial)⟩
     | false=>
       by_cases ha:a2=(G.size:Int)
       ·subst ha
        have Ei:((G.size:Int)==(G.size:Int))=true:=by simp
        have Ff:(G.size==G.size)=true:=by simp
        by_cases hs:ks.sum=D.size
        ·have hd:=Q4 hs
         rw[hd] at Dr
         have HS:=Hd hs
         clear hd hs
         go_wp2_with fail
         refine bodyPost_ret (v:=.tuple #[.agg #[.int .i64 (n:Nat),.slice zA zn zc,.bool lb,.int .i64 ln,.string lt,.int .i64 (lq:Int),.bool qb,.int .i64 qn,.string qt,.int .i64 (hq:Int),.slice cA cn Ab],.bool true]) (by simp[results,Tryz.results105,go_sem,m0,m1,m2,m3,m4,m5,m6,m7,m8,m9,m10]) rfl ?_
         exact Ak.out true ⟨fun _=>⟨by first | rfl | trivial,by first | rfl | trivial,HS.out⟩,fun h=>by cases h⟩
        ·have hd:=Q3 hs
         rw[hd] at Dr
         have HS:=Hd hs
         clear hd hs
         go_wp2_with fail
         refine bodyPost_ret (v:=.tuple #[.agg #[.int .i64 (n:Nat),.slice zA zn zc,.bool lb,.int .i64 ln,.string lt,.int .i64 (lq:Int),.bool qb,.int .i64 qn,.string qt,.int .i64 (hq:Int),.slice cA cn Ab],.bool false]) (by simp[results,Tryz.results105,go_sem,m0,m1,m2,m3,m4,m5,m6,m7,m8,m9,m10]) rfl ?_
         exact Ak.out false ⟨fun h=>(by cases h),fun _=>.inr (.inr HS.out)⟩
       ·have Ei:(a2==(G.size:Int))=false:=by simp[ha]
        have HA:=Hd ha
        clear ha
        go_wp2_with fail
        refine bodyPost_ret (v:=.tuple #[.agg #[.int .i64 (n:Nat),.slice zA zn zc,.bool lb,.int .i64 ln,.string lt,.int .i64 (lq:Int),.bool qb,.int .i64 qn,.string qt,.int .i64 (hq:Int),.slice cA cn Ab],.bool false]) (by simp[results,Tryz.results105,go_sem,m0,m1,m2,m3,m4,m5,m6,m7,m8,m9,m10]) rfl ?_
        exact Ak.out false ⟨fun h=>(by cases h),fun _=>.inr (.inl HA.out)⟩
    have Cz:decide ((j:Int)<(M:Int))=true:=Q4 (by omega)
    have Bj:decide (j<M)=true:=Q4 hlt
    obtain⟨gA,gc,gn,rfl,Be,-,-⟩:=(OwnK.read Bc).bds
    rw[Bf.out] at Be
    obtain rfl:j=gn:=Be.symm
    have Bp:=Hd Bc
    have Bn:=Fa.out a fl wr.drew ⟨fun k u hu=>HR.out.c k u hu,fun k hk=>HR.out.fr k hk,HR.out.lt⟩
    have Bh:=Dh0 HZ.out hlt
    generalize (if(As4 G a).2.2=0 then(As4 G a).2.1 else a)=a' at Bn Bh
    generalize (fl || decide ((As4 G a).2.2≠0))=Bx at Bn Bh
    generalize (As4 G a).1=z at Bn Bh
    obtain⟨zr,zu,⟨zb,zi,zt⟩,⟨xb,xi,xt⟩⟩:=z
    have Du:=Hd (show Calls Tryz.prog 145 #[.pointer (some ⟨W0.heap.size+2,0,none⟩),.func (.func 146) #[] #[]] wr.drew (fun en w'=>en=.returned (.agg #[.int .i64 zr,.int .i64 zu,.bool zb,.int .i64 zi,.string zt,.bool xb,.int .i64 xi,.string xt])/\VarC w' (W0.heap.size+2) (Bf5 G a' Bx)/\Go.KV.GB (W0.heap.size+2) wr.drew w') from Bn)
    have Ej:=Hd Bh
    have c1:=HI.out.c 1 _ rfl
    have Et:W0.heap.size+1<wr.heap.size:=by omega
    have Ag:=Hd (show j<=12 by omega)
    clear Bn Bh Bc
    go_wp2_with fail
    go_region_law(first
     | (go_simp;go_at_call 145;(with_reducible refine Du.out.mono ?_);rintro e w7 ⟨rfl,Eu,By⟩;have HV7:=Hd Eu;have HG7:=Hd By;have Bm:=By.size;have Bq:=Hd (HI.out.gb (GB.trans ((Go.KV.GB.refl (W0.heap.size+2) wr).drew) By) (by omega));have d1:=Bq.out.c 1 _ rfl;have hlt7:W0.heap.size+1<w7.heap.size:=(by show _<_;have h:wr.heap.size<=w7.heap.size:=Bm;omega);have e1:(w7.alloc (.cells #[.int .i64 zr,.int .i64 zu,.bool zb,.int .i64 zi,.string zt,.bool xb,.int .i64 xi,.string xt] 59)).cell? ⟨W0.heap.size+1,1,none⟩=some (.slice gA j gc):=(((Q2 w7.heap.size w7).alloc (Q1 _) _).cell (p:=⟨W0.heap.size+1,1,none⟩) hlt7).trans d1;have HO7:=Hd (show OwnK zonL 59 w7 (W0.heap.size+3) (.slice gA j gc) zs from Bi0 Bp.out (GB.trans ((Go.KV.GB.refl (W0.heap.size+2) wr).drew) By) (by omega)))
     | (show(if Region.wanted ⟨some 46,_,_,_,_,_⟩ _=true then _ else _);refine Dk0 (L:=zonL) rfl (.tmp 43) (.tmp 45) 47 rfl (W0.heap.size+3) 59 80 Tryz.underlying47 Tryz.infZon (.slice gA j gc) zs rfl (OwnK.alloc HO7.out _) (w7.heap.size+1) (.slice (some ⟨w7.heap.size,0,none⟩) 1 1) [⟨zr,zu,⟨zb,zi,zt⟩,⟨xb,xi,xt⟩⟩] rfl (RdK.lit (L:=zonL) _ [⟨zr,zu,⟨zb,zi,zt⟩,⟨xb,xi,xt⟩⟩] 1 _ (Q1 1) (by decide)) (by have:=Bf.out;have:=Ag.out;unfold maxLen;simp only[Q6,Q8];omega) (by have:=Bf.out;have:=Ag.out;simp only[Q6,Q8];omega) (by simp;omega) ?_;intro v' w' hown' hb' hg';obtain⟨vA,vc,vn,rfl,-,-,-⟩:=(OwnK.read hown').bds;have hx6:=Hd (Bq.out.below (((Q2 (W0.heap.size+3) w7).alloc (by have h:wr.heap.size<=w7.heap.size:=Bm;omega) _).trans hb') (by omega));have c1':=hx6.out.c 1 _ rfl;have f1':=hx6.out.fr 1 (show 1<11 by decide))
     | fail)
    all_goals
     have Cc:=GB.trans ((Go.KV.GB.refl (W0.heap.size+2) wr).drew) HG7.out
     have Al:=((Q2 (W0.heap.size+3) w7).alloc (by have h:wr.heap.size<=w7.heap.size:=Bm;omega) (.cells #[.int .i64 zr,.int .i64 zu,.bool zb,.int .i64 zi,.string zt,.bool xb,.int .i64 xi,.string xt] 59)).trans hb'
     have Ee:=Al.size
     have Bb:Below (W0.heap.size+1) W1 w7:=Cc.below HB.out (by omega) (by omega)
     have Ay:OwnV Value.string 9 w7 (W0.heap.size+3) (.slice cA cn Ab) (Aq0 D ks):=Bi0 Ai.out Cc (by omega)
     have Bg:OwnV Value.string 9 w' (W0.heap.size+3) (.slice cA cn Ab) (Aq0 D ks):=World.ownsRow.kept (World.ownsRow.alloc Ay (.cells #[.int .i64 zr,.int .i64 zu,.bool zb,.int .i64 zi,.string zt,.bool xb,.int .i64 xi,.string xt] 59)) hg' (Go.RS.own_apart (World.ownsRow.alloc Ay (.cells #[.int .i64 zr,.int .i64 zu,.bool zb,.int .i64 zi,.string zt,.bool xb,.int .i64 xi,.string xt] 59)) (OwnK.alloc HO7.out (.cells #[.int .i64 zr,.int .i64 zu,.bool zb,.int .i64 zi,.string zt,.bool xb,.int .i64 xi,.string xt] 59)) (by decide))
     have Ac:=hx6.out.set (k:=1) (show 1<11 by decide) (.slice vA vn vc)
     have Ax:=(HV7.out.below Al (by omega)).other (c:=W0.heap.size+1) (by omega) 1 (.slice vA vn vc)
     have Ba:=(Bb.trans (Al.mono (by omega))).setCell (p:=⟨W0.heap.size+1,1,none⟩) (Q1 _) (.slice vA vn vc)
     have As:OwnV Value.string 9 (w'.setCell ⟨W0.heap.size+1,1,none⟩ (.slice vA vn vc)) (W0.heap.size+3) (.slice cA cn Ab) (Aq0 D ks):=ownsRow_setCell_below Bg (a:=⟨W0.heap.size+1,1,none⟩) (by show W0.heap.size+1<_;omega) _
     have Ar:OwnK zonL 59 (w'.setCell ⟨W0.heap.size+1,1,none⟩ (.slice vA vn vc)) (W0.heap.size+3) (.slice vA vn vc) (zs++[⟨zr,zu,⟨zb,zi,zt⟩,⟨xb,xi,xt⟩⟩]):=ownsRow_setCell_below hown' (a:=⟨W0.heap.size+1,1,none⟩) (by show W0.heap.size+1<_;omega) _
     have Dc:(w'.setCell ⟨W0.heap.size+1,1,none⟩ (.slice vA vn vc)).heap.size=w'.heap.size:=World.size_setCell _ _ _
     have Em:wr.heap.size<=w7.heap.size:=Bm
     generalize w'.setCell ⟨W0.heap.size+1,1,none⟩ (.slice vA vn vc)=w8 at Ac Ax Ba Ar Dc As⊢
     have Cg:=Hd Ac;have HR8:=Hd Ax;have HB8:=Hd Ba;have HO8:=Hd Ar;have HC9:=Hd As
     have Bw:W0.heap.size+3<=w8.heap.size:=by omega
     clear Ac Ax Ba Ar hown' hb' Al hx6 c1' f1' hg' Cc Bb Ay Bg As HV7 HG7 HO7 Bq Du
     go_wp2_with fail
     go_roundw
     case rel=>exact⟨j+1,zs++[⟨zr,zu,⟨zb,zi,zt⟩,⟨xb,xi,xt⟩⟩],a',Bx,.slice vA vn vc,by go_num,hlt,Hd (by rw[Q5,Bf.out];rfl),Ej,Cg,HR8,HO8.out,HC9,HB8,Bw⟩
     case measure=>simp[intOf];omega
  have Cz:decide ((j:Int)<(M:Int)+1)=true:=Q4 (by omega)
  have Bj:decide (j<M+1)=true:=Q4 hlt
  obtain⟨X,hX⟩:∃X,D.extract ks.sum D.size=X:=⟨_,rfl⟩
  obtain⟨L,hL⟩:∃L,X.size=L:=⟨_,rfl⟩
  have Ea:L=D.size-ks.sum:=by rw[←hL,←hX,ByteArray.size_extract];omega
  have HX:=Hd hX;have HL:=Hd hL;have HLE:=Hd Ea
  have Dm:=Hd (Eh.out a fl L wr HR.out (by have:=Ec.out;omega))
  rw[hX]
  clear hX Ea
  obtain⟨gA,gc,gn,rfl,Be,-,-⟩:=Aq.read.bds
  rw[Cc7,Cu.out] at Be
  obtain rfl:j=gn:=Be.symm
  have Ai:=Hd Aq
  clear Aq
  go_wp2_with fail
  (with_reducible refine Dm.out.mono ?_);rintro e w6 ⟨k,a',Bx,rfl,Ao,Ad,Ae⟩
  have Bt:=Hd (Ds1 HK.out (by omega) Bl.out (by rw[←HLE.out];exact Ae))
  have Fh:=Ae.1
  have Af:=HI.out.gb Ad (by omega)
  have Au:=Ad.size
  have Dl:Below (W0.heap.size+1) W1 w6:=Ad.below HB.out (by omega) (by omega)
  have Cy:=Hd (Bi0 Ai.out Ad (by omega))
  have Ef:=Hd Af;have HR6:=Hd Ao;have HB6:=Hd Dl
  have Eg:=Af.c 10 _ rfl
  have Ev:(k:Int)<=(L:Int):=by omega
  have Cf:W0.heap.size+1<w6.heap.size:=by omega
  have Ed:(w6.alloc (.cells #[.string (X.extract 0 k)] 9)).cell? ⟨W0.heap.size+1,10,none⟩=some (.slice gA j gc):=(((Q2 w6.heap.size w6).alloc (Q1 _) _).cell (p:=⟨W0.heap.size+1,10,none⟩) Cf).trans Eg
  obtain⟨Y,hY⟩:∃Y,X.extract 0 k=Y:=⟨_,rfl⟩
  have HY:=Hd hY
  rw[hY] at Ed
  have Ag:=Hd (show j<=12 by omega)
  have Dw:=Hd (show(Aq0 D ks).length=j by rw[Cc7,Cu.out])
  generalize Dv:Aq0 D ks=CT at *
  have Er:=Hd Dv
  clear HK HI HR HB Af Dl Ao Ad Ae Dm Ai Dv
  go_wp2_with fail
  go_region_law(refine Dj9 (f:=Value.string) (fun _=>rfl) (.string ⟨#[]⟩) rfl rfl (.tmp 25) (.tmp 29) 81 rfl (W0.heap.size+3) 9 16 Tryz.underlying81 Tryz.infStr (.slice gA j gc) CT rfl ((show OwnV Value.string 9 w6.drew (W0.heap.size+3) (.slice gA j gc) CT from Cy.out).alloc _) (w6.heap.size+1) (.slice (some ⟨w6.heap.size,0,none⟩) 1 1) Y rfl (RdV.one _ _ _ _ _ (by decide) (by decide)) (by have:=Dw.out;have:=Ag.out;unfold maxLen;omega) (by have:=Dw.out;have:=Ag.out;omega) (by simp;omega) ?_;intro v' w' hown' hb' _;obtain⟨vA,vc,vn,rfl,-,-,-⟩:=hown'.read.bds;have hx6:=Hd (Ef.out.below (((Q2 (W0.heap.size+3) w6).drew.alloc (by show _<=w6.heap.size;omega) _).trans hb') (by omega));have c10':=hx6.out.c 10 _ rfl;have f10':=hx6.out.fr 10 (show 10<11 by decide))
  all_goals
   have Al:=((Q2 (W0.heap.size+3) w6).drew.alloc (by show _<=w6.heap.size;omega) (.cells #[.string Y] 9)).trans hb'
   have Ee:=Al.size
   have Ac:=hx6.out.set (k:=10) (show 10<11 by decide) (.slice vA vn vc)
   have Ax:=(HR6.out.below Al (by omega)).other (c:=W0.heap.size+1) (by omega) 10 (.slice vA vn vc)
   have Ba:=(HB6.out.trans (Al.mono (by omega))).setCell (p:=⟨W0.heap.size+1,10,none⟩) (Q1 _) (.slice vA vn vc)
   have Ar:OwnV Value.string 9 (w'.setCell ⟨W0.heap.size+1,10,none⟩ (.slice vA vn vc)) (W0.heap.size+3) (.slice vA vn vc) (CT++[Y]):=ownsRow_setCell_below hown' (a:=⟨W0.heap.size+1,10,none⟩) (by show W0.heap.size+1<_;omega) _
   have Dc:(w'.setCell ⟨W0.heap.size+1,10,none⟩ (.slice vA vn vc)).heap.size=w'.heap.size:=World.size_setCell _ _ _
   generalize w'.setCell ⟨W0.heap.size+1,10,none⟩ (.slice vA vn vc)=w8 at Ac Ax Ba Ar Dc⊢
   have Cg:=Hd Ac;have HR8:=Hd Ax;have HB8:=Hd Ba;have HO8:=Hd Ar
   have Bw:W0.heap.size+3<=w8.heap.size:=by omega
   clear Ac Ax Ba Ar hown' hb' Al hx6 c10' f10'
   go_wp2_with fail
   go_roundw
   case rel=>exact⟨j+1,ks++[k],a',Bx,.slice vA vn vc,by go_num,hlt,Hd (by rw[Q5,Cu.out];rfl),Hd (by rw[List.sum_append,List.sum_singleton];have:=Bl.out;have:=HLE.out;omega),by rw[List.sum_append,List.sum_singleton,←En9 HX.out HL.out Bl.out],Bt,Cg,HR8,by rw[De6,Er.out,←Eo0 HX.out Bl.out,HY.out];exact HO8.out,HB8,Bw⟩
   case measure=>simp[intOf];omega
end Go.P
