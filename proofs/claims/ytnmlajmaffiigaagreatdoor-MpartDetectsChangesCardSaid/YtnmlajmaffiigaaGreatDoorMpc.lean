/- Layer 16: the walk over package mpart's describe. -/
import Derived.Test.YtnmlajmaffiigaaGreatDoorMpb
import Derived.Test.YtnmlajmaffiigaaGreatDoorBt3
import Derived.Test.YtnmlajmaffiigaaGreatDoorZon
import Derived.Test.YtnmlajmaffiigaaGreatDoorGa
import Derived.Test.YtnmlajmaffiigaaGreatDoorMpa
import Derived.Test.YtnmlajmaffiigaaGreatDoorBt2
import Derived.Test.YtnmlajmaffiigaaGreatDoorShelf
set_option linter.constructorNameAsVariable false
set_option maxRecDepth 100000
set_option maxHeartbeats 2000000
open Go Go.Proofs Go.Proofs.YtnmlajmaffiigaaGreatDoor Go.P
namespace Go.MP
open RowKit VB VS VL CK RS SC MK ZN
theorem Ev8{cs:List Col}{l:List Rc}{j n:Nat}{t:List Zn}{x:Zn}(ht:t=zns cs l j++List.replicate (n-j) zn0)(hj:j<n)(hx:x=zof (cs.getD j col0).ty (Go.RS.colL j l)):t.set j x=zns cs l (j+1)++List.replicate (n-(j+1)) zn0:=by
 rw[Bq8,←hx]
 exact Dd5 ht (Az7 ..) hj
theorem zn_at{cs:List Col}{l:List Rc}{j n:Nat}{t:List Zn}(ht:t=zns cs l j++List.replicate (n-j) zn0)(hj:j<n):t[j]?=some zn0:=by
 subst ht
 rw[List.getElem?_append_right (by rw[Az7];exact Q1 _),Az7,Nat.sub_self,List.getElem?_replicate]
 exact if_pos (by omega)
end Go.MP
namespace Go.P
open RowKit VB VarM BP VS VL SC CK Go.ST MK RS ZN MP RL
theorem Tryz.infZon:(Tryz.prog.info? 59).map (fun i=>(i.zero,i.size,i.bytes))=some (some zonL.zv,8,80):=by kernel_rfl
theorem Ev1(cs:List Col)(v:Value)(key:Int)(r:Rc)(xa:Value)(w:World)(hS:RdC w w.heap.size v cs)(hx:RdL w w.heap.size xa r.row)(h0:0<=key)(hk:key.toNat<r.row.length):
   Calls Tryz.prog 87 #[.agg #[v,.int .i64 key],.agg #[.int .i64 r.seq,xa]] w (RetB (.agg #[.bool (Ac9 key.toNat r).nu,.int .i64 (Ac9 key.toNat r).n,.string (Ac9 key.toNat r).s,.int .i64 r.seq]) w):=by
 obtain⟨A2,c2,rfl,_,_,_⟩:=hS
 obtain⟨rA,rc,n1,rfl,h1,-,-⟩:=hx.bds
 subst h1
 obtain⟨k,rfl⟩:∃k:Nat,key=k:=⟨key.toNat,by omega⟩
 rw[Int.toNat_natCast] at hk⊢
 obtain⟨e1,e2⟩:=Bd8 hk
 have:=Bl2 A2 cs.length c2 k r rA rc w hx
 rw[e1,e2] at this
 exact this
theorem Cc3(cs:List Col)(v:Value)(key:Int)(x:Value)(l:List Rc)(W:World)(hr:RdC W W.heap.size v cs)(hx:RdR W W.heap.size x l)(hc:Ad9 cs key=0)(hl:l.length<=1024)(h0:l.length≠0)(ho:∀r∈l,Ag3 cs r=true):
   Calls Tryz.prog 39 #[.agg #[v,.int .i64 key],x] W (InfP (Ac7 cs key l) W):=by
 obtain⟨c0,Ek,-,k0,k1⟩:=Ad7 hc
 obtain⟨xA,xc,xn,rfl,Cx,Et,Fg⟩:=hx.bds
 have Bp:=Hd Cx
 have HR:=Hd hr;have HX:=Hd hx
 have Dm:=Hd (show l.length<=1024 from hl)
 have Fd:=Hd hc
 have HV:=Hd (Var2.new W v (.int .i64 key) 24)
 have Bg:=Hd ((Q2 W.heap.size W).alloc (Q1 _) (.cells #[v,.int .i64 key] 24))
 have Cb:=Hd (show(W.alloc (.cells #[v,.int .i64 key] 24)).heap.size=W.heap.size+1 from by simp)
 have Bf:=Hd h0;have HOK:=Hd ho
 obtain⟨A,cc,rfl,Ff,Ed,Cf⟩:=hr
 generalize hm:cs.length=m at *
 unfold maxLen at Ed
 have HM:=Hd hm
 have Bx:=Hd Cf
 obtain⟨W1,Ds⟩:∃W1,W.alloc (.cells #[.slice A m cc,.int .i64 key] 24)=W1:=⟨_,rfl⟩
 rw[Ds] at HV Bg Cb
 have Cv:=Cb.out
 have HI:=VarC.new W1 [.int .i64 0,.slice none 0 0,.bool false,.int .i64 0,.string ⟨#[]⟩,.int .i64 0,.bool false,.int .i64 0,.string ⟨#[]⟩,.int .i64 0] 53
 obtain⟨W2,Bh⟩:∃W2,W1.alloc (.cells #[.int .i64 0,.slice none 0 0,.bool false,.int .i64 0,.string ⟨#[]⟩,.int .i64 0,.bool false,.int .i64 0,.string ⟨#[]⟩,.int .i64 0] 53)=W2:=⟨_,rfl⟩
 have Cd:W2.heap.size=W.heap.size+2:=by rw[←Bh];simp[Cv]
 have Ak:Below W1.heap.size W1 W2:=by rw[←Bh];exact(Q2 _ _).alloc (Q1 _) _
 change VarC (W1.alloc (.cells #[.int .i64 0,.slice none 0 0,.bool false,.int .i64 0,.string ⟨#[]⟩,.int .i64 0,.bool false,.int .i64 0,.string ⟨#[]⟩,.int .i64 0] 53)) _ _ at HI
 rw[Bh] at HI
 have Bz:=Hd HI
 have Bb:=Hd (HV.out.below Ak (by omega))
 have Ce:=Hd (Bg.out.trans (Ak.mono (by omega)))
 clear HI HV Bg Ak
 have Bq:=By5 (P:=Tryz.prog) (L:=zonL) Tryz.underlying47 Tryz.infZon m (by omega) (by unfold maxLen;omega) W2
 have Ah:=RowK.made zonL 59 W2 (W.heap.size+2) m (by omega) (by unfold maxLen;omega)
 have Ae:Below W2.heap.size W2 (W2.alloc (.cells (madeCells zonL.zv.cells (m*zonL.K)) 59)):=(Q2 _ _).alloc (Q1 _) _
 have Eb:(W2.alloc (.cells (madeCells zonL.zv.cells (m*zonL.K)) 59)).heap.size=W.heap.size+3:=by simp[Cd]
 generalize W2.alloc (.cells (madeCells zonL.zv.cells (m*zonL.K)) 59)=W3 at Bq Ah Ae Eb
 rw[Cd] at Bq Ah
 have Bl:=Hd (Bb.out.below Ae (by omega))
 have Cc:=Hd (Bz.out.below Ae (by omega))
 have Ba:=Hd (Ce.out.trans (Ae.mono (by omega)))
 have Ar:=Hd Ah
 have Cy:=Hd (Eb0 _ l m W3 (HX.out.step Ba.out) (by have:=Dm.out;omega))
 obtain⟨v0,v1,-,-⟩:=id Bb.out
 obtain⟨Dx,Dq,-,-⟩:=id Bl.out
 clear hc ho hl hx hm h0 Cf Ah Ae Bb Bz Ce Cx
 go_enter Tryz.func39,Tryz.ntmps39
 go_wp2_with fail
 (with_reducible refine Cy.out.mono ?_);rintro e w4 ⟨u,ps,rfl,Aj,Ac,An⟩
 obtain⟨uA,uc,un,rfl,Co,-,-⟩:=Aj.read.bds
 rw[Bf0 (by omega) Ek] at Ac
 have As:=Ac.1
 rw[List.length_map,List.length_range] at As
 obtain rfl:m=un:=by rw[Co,As]
 have Fc:=An.size
 have Ai:=Hd (Ar.out.below An)
 have Cw:=Hd Aj;have HD4:=Hd Ac
 have Eg:=Hd (Bl.out.below An (by omega))
 have Ej:=Hd (Cc.out.below An (by omega))
 have Dt:=Hd (Ba.out.trans (An.mono (by omega)))
 have Ea:=Hd As
 have Ef:W.heap.size+3<=w4.heap.size:=by omega
 have Ez:=Hd (fun(j:Nat)(h:j<m)=>(Bx.out j h))
 clear Aj Ac An Bq Cy Ar Bl Cc Ba As Co v0 v1 Dx Dq
 go_wp2_with fail
 go_loopw[6,7,18] (fun _ _ iv wr=>∃(j:Nat)(t:List Zn),iv=.int .i64 j/\j<=m/\RowK zonL 59 wr (W.heap.size+2) (W.heap.size+2) m t/\Hid (t.length=m)/\Hid (t=zns cs l j++List.replicate (m-j) zn0)/\Hid (OwnV Sl.val 63 wr W3.heap.size (.slice uA m uc) ps)/\Hid (DeepLO 49 wr W3.heap.size ps ((List.range m).map fun c=>Go.RS.colL c l))/\Below (W.heap.size+2) w4 wr) (fun _ _ iv _=>m-(intOf iv).toNat)
 case atStart=>exact⟨0,_,rfl,Nat.zero_le _,Ai.out,Hd List.length_replicate,Hd rfl,Cw,HD4,Q2 _ _⟩
 case round=>
  clear Ai Cw HD4
  obtain⟨j,t,rfl,hj,Au,HL,HT,HO,HD,Ad⟩:=hrel
  have Af:Below W.heap.size W wr:=Dt.out.trans (Ad.mono (by omega))
  have Ey:=Ad.size
  have Bd:=Hd (Eg.out.below Ad (by omega))
  have Dn:=Hd (Ej.out.below Ad (by omega))
  obtain⟨v0,v1,-,-⟩:=id Bd.out
  by_cases hlt:j<m
  case neg=>
   obtain rfl:m=j:=by omega
   have Ee:decide ((m:Int)<(m:Int))=false:=Q3 (by omega)
   have HF:=Hd (show t=zns cs l m by rw[HT.out,Nat.sub_self,List.replicate_zero,List.append_nil])
   have Ec:=Hd (Au.own_at HL.out HF.out)
   obtain⟨p,hp⟩:∃p,xn=p+1:=⟨xn-1,by have:=Bf.out;have:=Bp.out;omega⟩
   obtain⟨f1,f2⟩:=Ax7 Bf.out
   obtain⟨g1,g2⟩:=Bh3 Bf.out
   rw[show l.length-1=p by rw[←Bp.out];omega] at g1 g2
   have o0:=HOK.out _ f1
   have o1:=HOK.out _ g1
   have Al:Ac7 cs key l=⟨xn,zns cs l m,Ac9 key.toNat (l.getD 0 rc0),(l.getD 0 rc0).seq.toNat,Ac9 key.toNat (l.getD p rc0),(l.getD p rc0).seq.toNat⟩:=by
    unfold Ac7;rw[HM.out,←Bp.out,show xn-1=p by omega]
   obtain⟨a0,Ci,Cg,Ap,rfl,Dj,p0,p1,-,Cj⟩:=(HX.out.below Af).at f2
   obtain⟨a1,Cz,Dc,Aq,Dh,Di,p2,p3,-,Cn⟩:=(HX.out.below Af).at g2
   cases Dh
   generalize l.getD 0 rc0=R0 at *
   generalize l.getD p rc0=R1 at *
   have Br:=Ae2 o0
   have Bw:=Ae2 o1
   have By:=Af1 Br.2.2
   have Cq:=Af1 Bw.2.2
   have Df:=fun(w:World)(h:Below wr.heap.size wr w)=>Hd (Ev1 cs (.slice A m cc) key R0 (.slice Ci Cg Ap) w (((HR.out.below Af).more Af.size).step h) ((Cj.more Af.size).step h) k0 (by rw[By,HM.out];omega))
   have Dg:=fun(w:World)(h:Below wr.heap.size wr w)=>Hd (Ev1 cs (.slice A m cc) key R1 (.slice Cz Dc Aq) w (((HR.out.below Af).more Af.size).step h) ((Cn.more Af.size).step h) k0 (by rw[Cq,HM.out];omega))
   have Bv:((R0.seq.toNat:Nat):Int)=R0.seq:=by omega
   have Cr:((R1.seq.toNat:Nat):Int)=R1.seq:=by omega
   have Bk:Dg4 (.slice (some ⟨W.heap.size+2,0,none⟩) m m) (Ac7 cs key l)=.agg #[.int .i64 (xn:Int),.slice (some ⟨W.heap.size+2,0,none⟩) m m,.bool (Ac9 key.toNat R0).nu,.int .i64 (Ac9 key.toNat R0).n,.string (Ac9 key.toNat R0).s,.int .i64 R0.seq,.bool (Ac9 key.toNat R1).nu,.int .i64 (Ac9 key.toNat R1).n,.string (Ac9 key.toNat R1).s,.int .i64 R1.seq]:=by
    rw[Al];unfold Dg4;simp only;rw[Bv,Cr]
   have Cu:(Ac7 cs key l).zs=zns cs l m:=by rw[Al]
   have Eh:=Hd Cu
   generalize Ac9 key.toNat R0=V0 at *
   generalize Ac9 key.toNat R1=V1 at *
   obtain⟨b0,i0,s0⟩:=V0
   obtain⟨b1,i1,s1⟩:=V1
   obtain⟨q0,Dk⟩:=R0
   obtain⟨q1,De⟩:=R1
   simp only at p0 p1 p2 p3 Bk
   have Dy:=Hd Bk
   have Ev:wrap64 ((xn:Int)-1)=(p:Int):=by unfold wrap64;omega
   have Fb:(0:Int)<(xn:Int):=by omega
   have Du:0<xn:=by omega
   have Em:(p:Int)<(xn:Int):=by omega
   have Dp:p<xn:=by omega
   have Fa:=Hd hp
   rw[Nat.zero_mul,show a0.add 0=a0 from by unfold Addr.add;simp] at p0 p1
   rw[show p=xn-1 by omega] at p2 p3
   have Dz:=Hd (fun(w:World)(h:Below wr.heap.size wr w)=>show(w.cell? a0=some (.int .i64 q0)/\w.cell? ⟨a0.block,a0.off+1,none⟩=some (.slice Ci Cg Ap)/\w.cell? (a0.add ((xn-1)*2))=some (.int .i64 q1)/\w.cell? ⟨(a0.add ((xn-1)*2)).block,(a0.add ((xn-1)*2)).off+1,none⟩=some (.slice Cz Dc Aq))/\(w.cell? ⟨W.heap.size,0,none⟩=some (.slice A m cc)/\w.cell? ⟨W.heap.size,1,none⟩=some (.int .i64 key)) from
    have hB:a0.block<wr.heap.size:=by have:=Af.size;omega
    have Db:(a0.add ((xn-1)*2)).block<wr.heap.size:=by rw[block_add];exact hB
    ⟨⟨by rw[h.cell hB];exact p0,by rw[h.cell (p:=⟨a0.block,_,none⟩) hB];exact p1,by rw[h.cell Db];exact p2,by rw[h.cell (p:=⟨(a0.add ((xn-1)*2)).block,_,none⟩) Db];exact p3⟩,⟨(Bd.out.step h).c0,(Bd.out.step h).c1⟩⟩)
   clear hp f1 f2 g1 g2 o0 o1 Al Br Bw By Cq Bv Cr Bk Cu Cj Cn p0 p1 p2 p3 HO HD Au HT Dj Di
   go_wp2_with fail
   refine Go.ConflA.wp_region_tail_at 17 (by simp only[List.take_succ_cons,List.take_zero,List.map_cons,List.map_nil];rfl) (by kernel_rfl) (by kernel_rfl) (by kernel_rfl) (by kernel_rfl) (by kernel_rfl) (Nat.zero_lt_succ _) (by kernel_rfl) ?_
   simp only[List.take_succ_cons,List.take_zero,List.drop_succ_cons,List.drop_zero]
   iterate 17
    first
    | (refine Go.ConflA.chainA_skip (Go.Confl.unwanted_is rfl rfl) ?_)
    | (first | apply Go.ConflA.chainA_is _ (Go.Confl.wanted_none rfl) | apply Go.ConflA.chainA_is _ (Go.Confl.wanted_is rfl rfl)
       ·intro b w hr hb K hK
        simp[Go.Confl.readFacts,Go.Confl.tmpsOf,Go.Confl.writerOf,Go.Confl.Is,Op.operands,Call.operands,List.findIdx?,List.findIdx?.go] at hr
        obtain⟨⟨y0,y1,y2,y3⟩,⟨y4,y5⟩⟩:=Dz.out _ hb
        go_wp2_with(first
         | (go_at_call 87;(with_reducible refine(Df _ hb).out.mono ?_);rintro e w' ⟨rfl,Dd⟩)
         | (go_at_call 87;(with_reducible refine(Dg _ hb).out.mono ?_);rintro e w' ⟨rfl,Dd⟩)
         | fail)
        try(simp only[hr];go_wp2)
        exact hK _ _ rfl (by first | exact Q2 _ _ | assumption))
    simp only[List.nil_append,List.cons_append]
   intro us w hp hdist hb
   simp[Go.Confl.allPosts,Go.Confl.Is] at hp
   simp only[Go.Confl.putsFrom,Act.put,List.setIfInBounds_toArray,List.set_cons_zero,List.set_cons_succ]
   change wpList _ _ _ _ _ _
   obtain⟨e0,e1,e2,e3,e4,e5,e6,e7,e8,e9,Bs,Ct,Ch,Da,Cp,Cm,Cl⟩:=hp
   simp only[e0,e1,e2,e3,e4,e5,e6,e7,e8,e9,Bs,Ct,Ch,Da,Cp,Cm,Cl]
   clear e0 e1 e2 e3 e4 e5 e6 e7 e8 e9 Bs Ct Ch Da Cp Cm Cl hdist
   have Aa:=Dn.out.step hb
   rw[Cv] at Aa
   have En:=Aa.c 0 _ rfl
   have z0:=Aa.fr 0 (by decide)
   have Fk:=Aa.c 1 _ rfl
   have z1:=Aa.fr 1 (by decide)
   have Er:=Aa.c 2 _ rfl
   have z2:=Aa.fr 2 (by decide)
   have Fi:=Aa.c 3 _ rfl
   have z3:=Aa.fr 3 (by decide)
   have Eu:=Aa.c 4 _ rfl
   have z4:=Aa.fr 4 (by decide)
   have Ex:=Aa.c 5 _ rfl
   have z5:=Aa.fr 5 (by decide)
   have Es:=Aa.c 6 _ rfl
   have z6:=Aa.fr 6 (by decide)
   have El:=Aa.c 7 _ rfl
   have z7:=Aa.fr 7 (by decide)
   have Fh:=Aa.c 8 _ rfl
   have z8:=Aa.fr 8 (by decide)
   have Ew:=Aa.c 9 _ rfl
   have z9:=Aa.fr 9 (by decide)
   have Bm:=Aa.putC [.int .i64 (xn:Int),.slice (some ⟨W.heap.size+2,0,none⟩) m m,.bool b0,.int .i64 i0,.string s0,.int .i64 q0,.bool b1,.int .i64 i1,.string s1,.int .i64 q1] 0 (Q1 10)
   have Ax:=Ag2 (g:=W.heap.size+1) [.int .i64 (xn:Int),.slice (some ⟨W.heap.size+2,0,none⟩) m m,.bool b0,.int .i64 i0,.string s0,.int .i64 q0,.bool b1,.int .i64 i1,.string s1,.int .i64 q1] 0 (Af.trans (hb.mono (by omega))) (by omega)
   obtain⟨X,hX⟩:∃X,putC w (W.heap.size+1) 0 [.int .i64 (xn:Int),.slice (some ⟨W.heap.size+2,0,none⟩) m m,.bool b0,.int .i64 i0,.string s0,.int .i64 q0,.bool b1,.int .i64 i1,.string s1,.int .i64 q1]=X:=⟨_,rfl⟩
   rw[hX] at Bm Ax
   have Ei:((((((((((w.setCell ⟨W.heap.size+1,0,none⟩ (.int .i64 (xn:Int))).setCell ⟨W.heap.size+1,1,none⟩ (.slice (some ⟨W.heap.size+2,0,none⟩) m m)).setCell ⟨W.heap.size+1,2,none⟩ (.bool b0)).setCell ⟨W.heap.size+1,3,none⟩ (.int .i64 i0)).setCell ⟨W.heap.size+1,4,none⟩ (.string s0)).setCell ⟨W.heap.size+1,5,none⟩ (.int .i64 q0)).setCell ⟨W.heap.size+1,6,none⟩ (.bool b1)).setCell ⟨W.heap.size+1,7,none⟩ (.int .i64 i1)).setCell ⟨W.heap.size+1,8,none⟩ (.string s1)).setCell ⟨W.heap.size+1,9,none⟩ (.int .i64 q1))=X:=hX
   have Ag:=Hd Bm;have HBP:=Hd Ax
   have Bj:OwnK zonL 59 _ (W.heap.size+2) _ (zns cs l m):=Af2 (g:=W.heap.size+1) (by omega) [.int .i64 (xn:Int),.slice (some ⟨W.heap.size+2,0,none⟩) m m,.bool b0,.int .i64 i0,.string s0,.int .i64 q0,.bool b1,.int .i64 i1,.string s1,.int .i64 q1] 0 (Ec.out.below hb)
   rw[hX] at Bj
   have Dw:=Hd Bj.read
   clear hX Bm Ax Aa Bj
   obtain⟨m0,m1,m2,m3,m4,m5,m6,m7,m8,m9⟩:X.cell? ⟨W.heap.size+1,0,none⟩=some (.int .i64 (xn:Int))/\X.cell? ⟨W.heap.size+1,1,none⟩=some (.slice (some ⟨W.heap.size+2,0,none⟩) m m)/\X.cell? ⟨W.heap.size+1,2,none⟩=some (.bool b0)/\X.cell? ⟨W.heap.size+1,3,none⟩=some (.int .i64 i0)/\X.cell? ⟨W.heap.size+1,4,none⟩=some (.string s0)/\X.cell? ⟨W.heap.size+1,5,none⟩=some (.int .i64 q0)/\X.cell? ⟨W.heap.size+1,6,none⟩=some (.bool b1)/\X.cell? ⟨W.heap.size+1,7,none⟩=some (.int .i64 i1)/\X.cell? ⟨W.heap.size+1,8,none⟩=some (.string s1)/\X.cell? ⟨W.heap.size+1,9,none⟩=some (.int .i64 q1):=
    ⟨Ag.out.c 0 _ rfl,Ag.out.c 1 _ rfl,Ag.out.c 2 _ rfl,Ag.out.c 3 _ rfl,Ag.out.c 4 _ rfl,Ag.out.c 5 _ rfl,Ag.out.c 6 _ rfl,Ag.out.c 7 _ rfl,Ag.out.c 8 _ rfl,Ag.out.c 9 _ rfl⟩
   go_wp2_with fail
   refine bodyPost_ret (v:=.agg #[.int .i64 (xn:Int),.slice (some ⟨W.heap.size+2,0,none⟩) m m,.bool b0,.int .i64 i0,.string s0,.int .i64 q0,.bool b1,.int .i64 i1,.string s1,.int .i64 q1]) (by simp[results,Tryz.results39,go_sem,m0,m1,m2,m3,m4,m5,m6,m7,m8,m9]) rfl ?_
   exact⟨_,by rw[Dy.out],by rw[Eh.out];exact Dw.out,HBP.out⟩
  have Ee:decide ((j:Int)<(m:Int))=true:=Q4 (by omega)
  have Dl:decide (j<m)=true:=Q4 hlt
  have Az:ps[j]?=some (ps[j]'(by rw[Ea.out];exact hlt)):=Q7 _
  have Ca:((List.range m).map fun c=>Go.RS.colL c l)[j]?=some (Go.RS.colL j l):=by rw[List.getElem?_map,List.getElem?_range hlt];rfl
  obtain⟨ad,Dr,Eo,k0⟩:=HO.out.read.at Az
  have Aw:=(HD.out.read).2 j _ _ Az Ca
  generalize ps[j]'_=P at k0 Aw
  obtain⟨pA,pn,pc⟩:=P
  subst Dr
  change wr.cell? (ad.add j)=some (Value.slice pA pn pc) at k0
  change RdL wr wr.heap.size (Value.slice pA pn pc) _ at Aw
  obtain⟨Fj,rfl,Be,Cs⟩:=Bx.out j hlt
  obtain⟨q0,q1,q2,q3⟩:=Cs.below Af Be
  obtain⟨T,hT⟩:∃T,cs.getD j col0=T:=⟨_,rfl⟩
  have Ay:=Hd (Ev8 (x:=zof (cs.getD j col0).ty (Go.RS.colL j l)) HT.out hlt rfl)
  have hz:=zn_at HT.out hlt
  rw[hT] at q0 q1 q2 q3 Ay
  obtain⟨tn,tt,ts,tu⟩:=T
  simp only at q0 q1 q2 q3 Ay
  have Ck:=Ev6 tt _ _ wr Aw
  have Bt:=Hd Au;have HBL:=Hd Ad
  have Bu:(j:Int)<(m:Int):=by omega
  clear Az Ca Aw hT Cs Au Ad HT
  generalize zof tt (Go.RS.colL j l)=z at *
  obtain⟨zr,zu,⟨zb,zi,zt⟩,⟨xb,xi,xt⟩⟩:=z
  have HZ:=Hd (show Calls Tryz.prog 86 #[.int .i64 tt,.slice pA pn pc] wr (RetB (.agg #[.int .i64 zr,.int .i64 zu,.bool zb,.int .i64 zi,.string zt,.bool xb,.int .i64 xi,.string xt]) wr) from Ck)
  clear Ck
  go_wp2_with fail
  (with_reducible refine HZ.out.mono ?_);rintro e w6 ⟨rfl,Ao⟩
  have Ab:=Bt.out.below Ao
  have y0:=Ab.at hz 0 rfl
  have y1:=Ab.at hz 1 rfl
  have y2:=Ab.at hz 2 rfl
  have y3:=Ab.at hz 3 rfl
  have y4:=Ab.at hz 4 rfl
  have y5:=Ab.at hz 5 rfl
  have y6:=Ab.at hz 6 rfl
  have y7:=Ab.at hz 7 rfl
  have f0:=Ab.frozen (j*8)
  have f1:=Ab.frozen (j*8+1)
  have f2:=Ab.frozen (j*8+2)
  have f3:=Ab.frozen (j*8+3)
  have f4:=Ab.frozen (j*8+4)
  have f5:=Ab.frozen (j*8+5)
  have f6:=Ab.frozen (j*8+6)
  have f7:=Ab.frozen (j*8+7)
  change w6.cell? ⟨_,j*8,none⟩=some (Value.int .i64 0) at y0
  change w6.cell? ⟨_,j*8+1,none⟩=some (Value.int .i64 0) at y1
  change w6.cell? ⟨_,j*8+2,none⟩=some (Value.bool false) at y2
  change w6.cell? ⟨_,j*8+3,none⟩=some (Value.int .i64 0) at y3
  change w6.cell? ⟨_,j*8+4,none⟩=some (Value.string ⟨#[]⟩) at y4
  change w6.cell? ⟨_,j*8+5,none⟩=some (Value.bool false) at y5
  change w6.cell? ⟨_,j*8+6,none⟩=some (Value.int .i64 0) at y6
  change w6.cell? ⟨_,j*8+7,none⟩=some (Value.string ⟨#[]⟩) at y7
  have Ep:=Ao.size
  have Bo:=Ab.put j (by rw[HL.out];exact hlt) ⟨zr,zu,⟨zb,zi,zt⟩,⟨xb,xi,xt⟩⟩
  have Bi:OwnV Sl.val 63 _ W3.heap.size _ ps:=Af2 (g:=W.heap.size+2) (by omega) (zonL.cs ⟨zr,zu,⟨zb,zi,zt⟩,⟨xb,xi,xt⟩⟩) (j*zonL.K) (HO.out.below Ao)
  have Bn:=De2 (g:=W.heap.size+2) (by omega) (zonL.cs ⟨zr,zu,⟨zb,zi,zt⟩,⟨xb,xi,xt⟩⟩) (j*zonL.K) (HD.out.below Ao)
  have Bc:=Ag2 (g:=W.heap.size+2) (zonL.cs ⟨zr,zu,⟨zb,zi,zt⟩,⟨xb,xi,xt⟩⟩) (j*zonL.K) (HBL.out.trans (Ao.mono (by omega))) (Q1 _)
  obtain⟨X,hX⟩:∃X,putC w6 (W.heap.size+2) (j*zonL.K) (zonL.cs ⟨zr,zu,⟨zb,zi,zt⟩,⟨xb,xi,xt⟩⟩)=X:=⟨_,rfl⟩
  rw[hX] at Bo Bi Bn Bc
  have Fe:(((((((w6.setCell ⟨W.heap.size+2,j*8,none⟩ (.int .i64 zr)).setCell ⟨W.heap.size+2,j*8+1,none⟩ (.int .i64 zu)).setCell ⟨W.heap.size+2,j*8+2,none⟩ (.bool zb)).setCell ⟨W.heap.size+2,j*8+3,none⟩ (.int .i64 zi)).setCell ⟨W.heap.size+2,j*8+4,none⟩ (.string zt)).setCell ⟨W.heap.size+2,j*8+5,none⟩ (.bool xb)).setCell ⟨W.heap.size+2,j*8+6,none⟩ (.int .i64 xi)).setCell ⟨W.heap.size+2,j*8+7,none⟩ (.string xt)=X:=hX
  have Dv:=Hd Bo;have HON:=Hd Bi;have HDN:=Hd Bn;have HBN:=Hd Bc
  clear Ab Ao HO HD Bt HBL HZ Bo Bi Bn Bc hX
  go_wp2_with fail
  go_roundw
  case rel=>exact⟨j+1,_,by go_num,hlt,Dv.out,Hd (by rw[List.length_set];exact HL.out),Ay,HON,HDN,HBN.out⟩
  case measure=>simp[intOf];omega
end Go.P
namespace Go.MP
open RowKit VB VarM VS VL CK RS SC MK ZN
end Go.MP
namespace Go.P
open RowKit VB VarM BP VS VL SC CK Go.ST MK RS ZN MP RL CR
end Go.P
namespace Go.MP
open RowKit VB VarM VS VL CK RS SC MK ZN
end Go.MP
namespace Go.P
open RowKit VB VarM BP VS VL SC CK Go.ST MK RS ZN MP RL
end Go.P
