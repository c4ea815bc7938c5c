/- Texts of one part, joined. -/
import Derived.Test.YtnmlajmaffiigaaGreatDoorMpO
import Derived.Test.YtnmlajmaffiigaaGreatDoorMpb
import Derived.Test.YtnmlajmaffiigaaGreatDoorMpS
import Derived.Test.YtnmlajmaffiigaaGreatDoorMpc
import Derived.Test.YtnmlajmaffiigaaGreatDoorBt3
import Derived.Test.YtnmlajmaffiigaaGreatDoorMpL0
import Derived.Test.YtnmlajmaffiigaaGreatDoorMpR3
import Derived.Test.YtnmlajmaffiigaaGreatDoorBt7b
import Derived.Test.YtnmlajmaffiigaaGreatDoorMpa
set_option linter.constructorNameAsVariable false
set_option maxRecDepth 100000
set_option maxHeartbeats 2000000
open Go Go.Proofs Go.Proofs.YtnmlajmaffiigaaGreatDoor Go.P
namespace Go.MP
open RowKit VB VarM VS VL SC CK Go.ST MK RS ZN
def RecsF(cs:List Col)(key:Int)(file:ByteArray)(W:World):Ending->World->Prop:=fun en w'=>∃x,en=.returned (.tuple #[x,.int .i64 ((Bw8 cs key file).2:Nat)])/\RdR w' w'.heap.size x (Bw8 cs key file).1/\Below W.heap.size W w'
theorem RecsF.bad{cs:List Col}{key:Int}{file:ByteArray}{W w':World}{e:Nat}{x:Value}(h:Bw8 cs key file=([],e))(hx:x=.tuple #[.slice none 0 0,.int .i64 (e:Nat)])(hb:Below W.heap.size W w'):RecsF cs key file W (.returned x) w':=
 ⟨.slice none 0 0,by rw[hx,h],by rw[h];exact RdR.nil _ _,hb⟩
theorem grid0(eR eV:TypeId)(w:World)(n:Nat)(hm:n<=maxLen):Grid eR eV (w.alloc (.cells (madeCells recL.zv.cells (n*recL.K)) eR)) w.heap.size w.heap.size n (List.replicate n recL.z) (List.replicate n rc0):=by
 refine⟨RowK.made recL eR w w.heap.size n (Q1 _) hm,⟨by rw[List.length_replicate,List.length_replicate],fun i p r hp hr=>?_⟩,fun i j p q _ hp _=>?_⟩
 ·rw[List.getElem?_replicate] at hp hr
  split at hp
  ·rename_i h
   rw[if_pos h] at hr
   cases hp;cases hr
   exact⟨rfl,OwnL.nil _ _ _⟩
  ·cases hp
 ·rw[List.getElem?_replicate] at hp
  split at hp
  ·cases hp;exact .inl rfl
  ·cases hp
theorem Dn3{cs:List Col}{file:ByteArray}{o:Opn}{i:Nat}{r:Rc}(h:r∈Ax6 cs file o i):r.row.length<=cs.length:=by
 obtain⟨n,_,rfl⟩:=List.mem_map.1 h
 unfold Fh3 Cz5
 simp only
 rw[List.length_map,List.length_range]
 exact Nat.min_le_right _ _
theorem Fd9{p:Nat->Prop}{j:Nat}(h:∀k,k<j->p k)(hj:p j):∀k,k<j+1->p k:=fun k hk=>by
 by_cases e:k=j
 ·rw[e];exact hj
 ·exact h k (by omega)
end Go.MP
namespace Go.P
open RowKit VB VarM BP VS VL SC CK Go.ST MK RS ZN MP
theorem Ca5(cs:List Col)(v:Value)(key:Int)(file:ByteArray)(W:World)(hr:RdC W W.heap.size v cs)(hs:file.size<=140737488351232):
   Calls Tryz.prog 25 #[.agg #[v,.int .i64 key],.string file] W (RecsF cs key file W):=by
 have hV:=Var2.new W v (.int .i64 key) 24
 have Bj:=(Q2 W.heap.size W).alloc (Q1 _) (.cells #[v,.int .i64 key] 24)
 have Cj:(W.alloc (.cells #[v,.int .i64 key] 24)).heap.size=W.heap.size+1:=by simp
 obtain⟨W1,Ck⟩:∃W1,W.alloc (.cells #[v,.int .i64 key] 24)=W1:=⟨_,rfl⟩
 rw[Ck] at hV Bj Cj
 have Bw:=hr.step Bj
 have Cn:=Hd (Bi7 cs v key file W1 Bw hs)
 have Db:=Hd hs
 have HV:=Hd (fun(w:World)(h:Below W1.heap.size W1 w)=>hV.below h (by omega))
 have Di:=Hd Bj;have HR1:=Hd Bw
 have RB:=@Cp1 cs key file
 have RD:=@Cp0 cs key file
 have RN:=@Ey6 cs key file
 have RY:=@Ef8 cs key file
 have FO:=@Bi3 cs key file
 have CL:=Dz8 file (opn cs key file).2
 unfold OpnP at Cn
 obtain⟨A,cc,rfl,Dp,Dn,-⟩:=id hr
 obtain⟨v0,v1,-,-⟩:=hV
 generalize Dd:opn cs key file=OP at *
 obtain⟨E,O⟩:=OP
 simp only at *
 have Ce:=Hd RB;have HRD:=Hd RD;have HRN:=Hd RN;have HRY:=Hd RY;have HFO:=Hd FO;have HCL:=Hd CL
 have Dv:=Hd Ck
 have Ea:=Cj
 generalize hM:cs.length=M at *
 have HM:=Hd hM
 clear hr hs Bw Bj RB RD RN RY FO CL Dd Dp Dn hM
 go_enter Tryz.func25,Tryz.ntmps25
 go_wp2_with fail
 (with_reducible refine Cn.out.mono ?_);rintro e w2 ⟨zv,cv,rfl,hz,An,Be⟩
 replace hz:=OwnK.read hz
 replace An:=OwnV.read An
 obtain⟨zA,zc,zn,rfl,-,-,-⟩:=hz.bds
 obtain⟨cA,Ae,n,rfl,Cb,-,-⟩:=An.bds
 have Ct:=Hd Cb
 clear Cb
 have hI:=VarC.new w2 (Bp5 (.slice zA zn zc) (.slice cA n Ae) O.inf) 87
 have Ac:=(Q2 w2.heap.size w2).alloc (Q1 _) (.cells (Bp5 (.slice zA zn zc) (.slice cA n Ae) O.inf).toArray 87)
 have Bc:(w2.alloc (.cells (Bp5 (.slice zA zn zc) (.slice cA n Ae) O.inf).toArray 87)).heap.size=w2.heap.size+1:=by simp
 obtain⟨F,hF⟩:∃F,O.inf=F:=⟨_,rfl⟩
 have Au:=Hd hF
 rw[hF] at hI Ac Bc hz⊢
 clear hF
 obtain⟨Aa,Bk,⟨lb,ln,lt⟩,Ao,⟨qb,qn,qt⟩,Ap⟩:=F
 unfold Bp5 at hI Ac Bc
 unfold Dy6
 simp only at hI Ac Bc hz⊢
 obtain⟨W6,Dt⟩:∃W6,w2.alloc (.cells #[.int .i64 (Aa:Nat),.slice zA zn zc,.bool lb,.int .i64 ln,.string lt,.int .i64 (Ao:Nat),.bool qb,.int .i64 qn,.string qt,.int .i64 (Ap:Nat),.slice cA n Ae] 87)=W6:=⟨_,rfl⟩
 change VarC (w2.alloc (.cells #[.int .i64 (Aa:Nat),.slice zA zn zc,.bool lb,.int .i64 ln,.string lt,.int .i64 (Ao:Nat),.bool qb,.int .i64 qn,.string qt,.int .i64 (Ap:Nat),.slice cA n Ae] 87)) _ _ at hI
 rw[Dt] at hI Ac Bc
 have Ag:=Hd (Aa0 Be Ac)
 have By:=Hd (Aa0 Di.out Ag.out)
 have Ad:=An.step Ac
 have Bf:=hz.step Ac
 obtain⟨v0,v1,-,-⟩:=HV.out W6 Ag.out
 have Dy:=Be.size
 by_cases he:E=0
 case neg=>
  have hd:((E:Int)!=0)=true:=Ab5 (by omega)
  have HC:=Hd (Ce.out he)
  clear he hI Ac Be hz An Ad Bf
  go_wp2_with fail
  go_ret2
  exact RecsF.bad HC.out rfl By.out
 subst he
 obtain⟨hc,-,Bq,Bm⟩:=HFO.out (by first | rfl | trivial)
 have Ee:=(Ad7 hc).2.1
 have Dq:=Hd hc
 have Co:1<=Aa:=by
  by_cases h:1<=Aa
  ·exact h
  ·rw[Cr1 (by rw[Au.out];exact h)] at Bm;cases Bm
 have Af:Aa<=1024:=by have:=Bq.rows;rw[Au.out] at this;exact this
 have Bp:=Bq.kl
 have Ax:=Hd (show O.inf.rows=Aa by rw[Au.out])
 clear Bq Bm hc
 have Bl:=By5 (P:=Tryz.prog) (L:=recL) Tryz.underlying25 Tryz.infRec Aa (by omega) (by unfold maxLen;omega) W6
 have Bi:=grid0 67 49 W6 Aa (by unfold maxLen;omega)
 have Ab:Below W6.heap.size W6 (W6.alloc (.cells (madeCells recL.zv.cells (Aa*recL.K)) 67)):=(Q2 _ _).alloc (Q1 _) _
 obtain⟨W7,Ds⟩:∃W7,W6.alloc (.cells (madeCells recL.zv.cells (Aa*recL.K)) 67)=W7:=⟨_,rfl⟩
 rw[Ds] at Bl Bi Ab
 obtain⟨b,hb⟩:∃b,W6.heap.size=b:=⟨_,rfl⟩
 have Cf:n=M+1:=by rw[Ct.out,HCL.out,Bp]
 have Ah:=Hd (fun(w:World)(h:Below b W7 w)=>show(w.cell? ⟨W.heap.size,0,none⟩=some (.slice A M cc)/\w.cell? ⟨W.heap.size,1,none⟩=some (.int .i64 key))/\ConAt w w2.heap.size (.slice zA zn zc) (.slice cA n Ae) ⟨Aa,Bk,⟨lb,ln,lt⟩,Ao,⟨qb,qn,qt⟩,Ap⟩/\RdC w b (.slice A M cc) cs/\RdV Value.string w b (.slice cA n Ae) (chL file O)/\RdK zonL w b (.slice zA zn zc) Bk/\Below W.heap.size W w from by
  have h6:Below b W6 w:=by rw[←hb] at h⊢;exact Ab.trans h
  have Cc:Below W6.heap.size W6 w:=by rw[hb];exact h6
  have Cp:=(HR1.out.step Ag.out)
  obtain⟨u0,u1,-,-⟩:=(HV.out W6 Ag.out).below h6 (by have:=Ac.size;omega)
  refine⟨⟨u0,u1⟩,Cv7 ((show VarC W6 w2.heap.size (Bp5 (.slice zA zn zc) (.slice cA n Ae) ⟨Aa,Bk,⟨lb,ln,lt⟩,Ao,⟨qb,qn,qt⟩,Ap⟩) from hI).step Cc),?_,?_,?_,By.out.trans (Cc.mono (by have:=By.out.size;omega))⟩
  ·rw[hb] at Cp;exact Cp.below h6
  ·rw[hb] at Ad;exact Ad.below h6
  ·rw[hb] at Bf;exact Bf.below h6)
 rw[hb] at Bl Bi Ab
 obtain⟨⟨v0,v1⟩,⟨⟨i0,i1,i2,i3,i4,i5⟩,i6,i7,i8,i9,Ar⟩,-,-,-,-⟩:=Ah.out W7 (Q2 _ _)
 have Cq:=hI
 have j0:=Cq.c 0 _ rfl
 have Cu:=Hd Bi
 have Dl:=Hd Bp;have HNM:=Hd Cf
 have Aw:=Ab.size
 have Cy:=Hd (show b<=W7.heap.size by omega)
 have Ed:=Hd hb
 clear hI Cq Ac Bc Be hz An Ad Bf Bi Ab Bp Cf
 have Bz:(Instr.makeSlice 25 (.int .i64 (Aa:Int)) (.int .i64 (Aa:Int))).run Tryz.prog W6=.ok (.slice (some ⟨b,0,none⟩) Aa Aa) W7:=Bl
 clear Bl hb
 go_wp2_with fail
 clear Bz v0 v1 i0 i1 i2 i3 i4 i5 i6 i7 i8 i9 Ar j0
 go_loopw[4,5,9,10,11,28] (fun r4 r5 _ _ _ iv wr=>∃(j:Nat)(qs:List Rs),iv=.int .i64 j/\j<=n/\r4=.slice none 0 0/\r5=.int .i64 0/\Hid (Grid 67 49 wr b b Aa qs (Ax6 cs file O j))/\Hid (∀k,k<j->(At8 cs file O k).2=0)/\Below b W7 wr) (fun _ _ _ _ _ iv _=>n-(intOf iv).toNat)
 case atStart=>exact⟨0,_,rfl,Nat.zero_le _,rfl,rfl,Hd (by rw[Cz7,Ax.out];exact Cu.out),Hd (fun k hk=>absurd hk (Nat.not_lt_zero _)),Q2 _ _⟩
 case round=>
  obtain⟨j,qs,rfl,hj,rfl,rfl,HG,Bh,Ai⟩:=hrel
  obtain⟨⟨v0,v1⟩,⟨⟨i0,i1,i2,i3,i4,i5⟩,i6,i7,i8,i9,Ar⟩,Bu,Bv,Cl,Bo⟩:=Ah.out wr Ai
  have Dx:=Ai.size
  have Ec:=Cy.out
  have Al:=Hd Ai
  have Bn:qs.length=Aa:=by rw[HG.out.len,Al1,Ax.out]
  by_cases hlt:j<n
  case neg=>
   obtain rfl:j=n:=by omega
   have Dr:decide ((j:Int)<(j:Int))=false:=Q3 (by omega)
   have Ay:De4 cs file O=0:=Dx9 fun k hk=>Bh.out k (by have:=HNM.out;have:=HM.out;omega)
   have Ba:Ax6 cs file O j=Am0 cs file O:=by rw[HNM.out,←HM.out];exact Cz9 cs file O
   have Bs:=Hd (show RdR wr wr.heap.size (.slice (some ⟨b,0,none⟩) Aa Aa) (Am0 cs file O) by
    have h:=HG.out.own.read
    rw[Bn,Ba] at h;exact h)
   have Bg:=Hd (fun(w:World)(h:Below wr.heap.size wr w)=>Ck6 cs (.slice A M cc) key (.slice (some ⟨b,0,none⟩) Aa Aa) (Am0 cs file O) w (((Ah.out wr Al.out).2.2.1.more (by omega)).step h) (Bs.out.step h))
   have Ci:=Hd (show(Am0 cs file O).length=Aa by rw[Dn2,Ax.out])
   have Aj:=HRN.out (by first | rfl | trivial) Ay
   have As:=HRY.out (by first | rfl | trivial) Ay
   clear Ce HRD HRN HRY Ay Ba Bu Bv Cl HG Bh
   cases hso:Ak3 cs key (Am0 cs file O) with
   | false=>
     rw[hso] at Bg
     have HC:=Hd (Aj (by rw[hso];rintro⟨h,_⟩;cases h))
     clear Aj As hso i0 i1 i2 i3 i4 i5 i6 i7 i8 i9 Ar
     have De:b<=wr.heap.size:=by omega
     go_wp2_with fail
     refine Go.Confl.wp_region_confl (by simp only[List.map_cons,List.map_nil];rfl) (by kernel_rfl) (by kernel_rfl) ?_
     iterate 13
      first
      | (refine Go.Confl.chain_skip (Go.Confl.unwanted_is rfl rfl) ?_)
      | (first | apply Go.Confl.chain_is _ (Go.Confl.wanted_none rfl) | apply Go.Confl.chain_is _ (Go.Confl.wanted_is rfl rfl)
         ·intro b w hr hb K hK
          simp[Go.Confl.readFacts,Go.Confl.tmpsOf,Go.Confl.writerOf,Go.Confl.Is,Op.operands,Call.operands,List.findIdx?,List.findIdx?.go] at hr
          obtain⟨⟨v0,v1⟩,-,-,-,-,-⟩:=Ah.out _ (Al.out.trans (hb.mono De))
          go_wp2_with(first
           | (go_at_call 36;(with_reducible refine(Bg.out _ hb).mono ?_);rintro e w' ⟨rfl,Du⟩))
          try(simp only[hr];go_wp2)
          exact hK _ _ rfl (by first | exact Q2 _ _ | assumption))
      simp only[List.nil_append,List.cons_append]
     intro us w hp hb
     simp[Go.Confl.allPosts,Go.Confl.Is] at hp
     simp only[Go.Confl.putsFrom,hp,Act.put,List.setIfInBounds_toArray,List.set_cons_zero,List.set_cons_succ]
     go_wp2_with fail
     go_ret2
     exact RecsF.bad HC.out rfl (Aa0 Bo hb)
   | true=>
     rw[hso] at Bg Aj As
     have S:=By1 hso
     have Cr:=Hd (fun(w:World)(h:Below wr.heap.size wr w)=>Cc3 cs (.slice A M cc) key (.slice (some ⟨b,0,none⟩) Aa Aa) (Am0 cs file O) w (((Ah.out wr Al.out).2.2.1.more (by omega)).step h) (Bs.out.step h) Dq.out (by rw[Ci.out];exact Af) (by rw[Ci.out];omega) S.ok)
     rw[Au.out] at Aj As
     generalize Ac7 cs key (Am0 cs file O)=IO at Cr Aj As
     have Dg:=Hd (fun(w:World)(h:Below wr.heap.size wr w)(dv:Value)(Ay:RdK zonL w w.heap.size dv IO.zs)=>show Calls Tryz.prog 65 #[Dg4 dv IO,.agg #[.int .i64 (Aa:Nat),.slice zA zn zc,.bool lb,.int .i64 ln,.string lt,.int .i64 (Ao:Nat),.bool qb,.int .i64 qn,.string qt,.int .i64 (Ap:Nat)]] w _ from Cl4 dv (.slice zA zn zc) IO ⟨Aa,Bk,⟨lb,ln,lt⟩,Ao,⟨qb,qn,qt⟩,Ap⟩ w Ay (((Ah.out wr Al.out).2.2.2.2.1.more (by omega)).step h))
     have Br:=Hd Aj;have HRY2:=Hd As
     have Cg:=Hd (fun(w:World)(h:Below wr.heap.size wr w)=>Ah.out w (Al.out.trans (h.mono (by omega))))
     clear Aj As hso S
     go_wp2_with fail
     go_region_with(first
      | (go_at_call 36;(with_reducible refine(Bg.out _ (by go_grown)).mono ?_);rintro e w6 ⟨rfl,Aq⟩;have Ag:=Hd (show Below wr.heap.size wr w6 from Aa0 (by go_grown) Aq);obtain⟨⟨v0,v1⟩,⟨⟨i0,i1,i2,i3,i4,i5⟩,i6,i7,i8,i9,Ar⟩,-,-,-,-⟩:=Cg.out w6 Ag.out)
      | (go_at_call 39;(with_reducible refine(Cr.out _ (Aa0 Ag.out (by go_grown))).mono ?_);rintro e w7 ⟨dv,rfl,Cv,Aw⟩;have Bd:=Hd (show Below wr.heap.size wr w7 from Aa0 Ag.out (Aa0 (by go_grown) Aw));have HDV:=Hd Cv;obtain⟨⟨v0,v1⟩,⟨⟨i0,i1,i2,i3,i4,i5⟩,i6,i7,i8,i9,Ar⟩,-,-,-,-⟩:=Cg.out w7 Bd.out)
      | (go_at_call 65;(with_reducible refine(Dg.out _ (Aa0 Bd.out (by go_grown)) dv (HDV.out.step (by go_grown))).mono ?_);rintro e w8 ⟨bb,rfl,Cm,Dm⟩;have HB8:=Hd (show Below wr.heap.size wr w8 from Aa0 Bd.out (Aa0 (by go_grown) Dm))))
     all_goals
      cases bb with
      | false=>
        have HC:=Hd (Br.out (by rintro⟨_,h⟩;exact absurd (Cm.2 h) (by decide)))
        go_wp2_with fail
        go_ret2
        exact RecsF.bad HC.out rfl (Aa0 Bo HB8.out)
      | true=>
        have HC:=Hd (HRY2.out ⟨(by first | rfl | trivial),Cm.1 rfl⟩)
        go_wp2_with fail
        go_ret2
        exact⟨_,by rw[HC.out];rfl,by rw[HC.out];exact Bs.out.step HB8.out,Aa0 Bo HB8.out⟩
  have Dr:decide ((j:Int)<(n:Int))=true:=Q4 (by omega)
  have Dc:decide (j<n)=true:=Q4 hlt
  have Bb:=Cv6 cs (.slice A M cc) key (.slice zA zn zc) (.slice cA n Ae) file O j wr (Bu.more (by omega)) (Bv.more (by omega)) (by rw[Dl.out];have:=HNM.out;have:=HM.out;omega) Db.out
  rw[Au.out] at Bb
  unfold Dy6 at Bb
  simp only at Bb
  have Ch:=Hd Bb
  have Ak:=Hd (show j<=M by have:=HNM.out;omega)
  have Dj:j<=12:=by have:=Ak.out;have:=HM.out;omega
  have Eb:=Hd Bn
  clear Bb Bu Bv Cl Bn
  go_wp2_with fail
  (with_reducible refine Ch.out.mono ?_);rintro e w6 ⟨u,rfl,ho,Aq⟩
  have Az:=Hd (Al.out.trans (Aq.mono (by omega)))
  have Dh:=Hd (HG.out.below Aq)
  have Da:=Hd ho
  have Cx:=Hd (Eq0 HG.out (Q1 _) ho)
  have Dw:=Aq.size
  obtain⟨⟨v0,v1⟩,⟨⟨i0,i1,i2,i3,i4,i5⟩,i6,i7,i8,i9,Ar⟩,-,-,-,Ca⟩:=Ah.out w6 Az.out
  clear ho Aq Ch
  obtain⟨D,hD⟩:∃D,(At8 cs file O j).2=D:=⟨_,rfl⟩
  have Cz:=Hd hD
  by_cases hd:D=0
  case neg=>
   have Dz:((D:Int)!=0)=true:=Ab5 (by omega)
   have Bt:=Em8 (o:=O) (file:=file) (cs:=cs) (i:=j) (by have:=Ak.out;have:=HM.out;omega) Bh.out (by rw[hD];exact hd)
   have HC:=Hd (show Bw8 cs key file=([],D) by rw[HRD.out (by first | rfl | trivial) (by rw[Bt,hD];exact hd),Bt,hD])
   rw[hD]
   clear hD hd Bt
   go_wp2_with fail
   go_ret2
   exact RecsF.bad HC.out rfl Ca
  subst hd
  have Cs:=En5 hD
  have Df:=Hd (Cz8 (cs:=cs) (file:=file) (o:=O) (i:=j) (by have:=Ak.out;have:=HM.out;omega))
  have Cd:=Hd (Dg2 A M cc key b Aa Aa j u (At8 cs file O j).1 (Ax6 cs file O j) qs b wr.heap.size w6 Dh.out (by rw[Al1,Ax.out]) Da.out Cx.out (by rw[Cs,Ax.out]) (fun r hr=>by have:=Dn3 hr;have:=HM.out;omega) (by have:=HM.out;omega) Af (Q1 _))
  rw[hD]
  clear hD Cs
  go_wp2_with fail
  (with_reducible refine Cd.out.mono ?_);rintro e w7 ⟨rfl,rs,Bx,Aw⟩
  have Dk:=Hd (show Grid 67 49 w7 b b Aa rs (Ax6 cs file O (j+1)) by
   rw[Al1,HM.out.symm,Df.out] at Bx;exact Bx)
  have Bd:=Hd (Az.out.trans Aw)
  have Cw:=Hd (Fd9 Bh.out Cz.out)
  clear Bx Aw Cd
  go_wp2_with fail
  go_roundw
  case rel=>exact⟨j+1,rs,by go_num,hlt,rfl,rfl,Dk,Cw,Bd.out⟩
  case measure=>simp[intOf];omega
end Go.P

namespace Go.MP
open RowKit VB VarM VS VL SC CK Go.ST MK RS ZN
structure KRec(cs:List Col)(key:Int)(Z:List Rc)(N:Nat):Prop where
 kok:KOK cs key
 srt:Ak3 cs key Z=true
 len:Z.length<=N
 inr:InR Z
theorem Ci1{cs:List Col}{key:Int}{ls:List Rc}{N:Nat}(h:KOK cs key)(ho:∀r∈ls,Ag3 cs r=true)(hi:InR ls)(hp:ls.Pairwise fun a b=>a.seq<b.seq)(hl:ls.length<=N):KRec cs key (Ap8 cs key ls) N:=
 ⟨h,(Cg5 h ho hp).1,Nat.le_trans Dk4 hl,fun r hr=>hi r (By3 hr)⟩
section
variable {cs:List Col} {key:Int} {Z:List Rc} {N:Nat}
theorem KRec.S(h:KRec cs key Z N):Srt cs key Z:=By1 h.srt
theorem KRec.nil(h:KRec cs key Z N)(h0:Z.length=0):An6 cs key Z=1:=Bk3 (kokc h.kok) (by omega) (.inl h0)
theorem KRec.ok(h:KRec cs key Z N)(hN:N<=1024)(h0:Z.length≠0):An6 cs key Z=0:=Bv1 (by have:=h.len;omega) h0 h.srt
theorem KRec.big(h:KRec cs key Z N)(hN:N<=1024)(h0:Z.length≠0):(Aa9 cs key Z).length<=10600+12*68000:=by
 have h1:=Dv9 h.S (by have:=h.len;omega) h0 h.inr
 have h2:=Ck9 (n:=Z.length) (by have:=h.len;omega) cs
 have h3:=h.kok.2.1
 have h4:cs.length*68000<=12*68000:=Nat.mul_le_mul_right _ (by omega)
 omega
end
theorem Cj1(cs:List Col)(key:Int)(l:List Rc):16<=(Aa9 cs key l).length:=by
 unfold Aa9
 rw[Af0,←Aa3,Af9];omega
end Go.MP
namespace Go.P
open RowKit VB VarM BP VS VL SC CK Go.ST MK RS ZN MP
theorem Av4(W:World):Calls Tryz.prog 22 #[] W (RetB (.bool true) W):=by
 have hf:Fh7 [Bw9] 0 [r74]=str (Aa9 [Bw9] 0 [r74]):=Bk2 Eu4
 have hR:Bw8 [Bw9] 0 (str (Aa9 [Bw9] 0 [r74]))=([r74],0):=Ey5 Cf9 (by decide) (by decide) Fc3
 have Ak:(str (Aa9 [Bw9] 0 [r74])).size<=140737488351232:=by
  have hS:=By1 Cf9
  have:=Dv9 hS (by decide) (by decide) Fc3
  have h2:=Ck9 (n:=[r74].length) (by decide) [Bw9]
  rw[Aa3]
  simp only[Q6,Q8] at this h2
  exact Nat.le_trans this (Nat.le_trans h2 (by decide))
 have HE:=Hd (fun(v x:Value)(w:World)(hv:RdC w w.heap.size v [Bw9])(hx:RdR w w.heap.size x [r74])=>by
  have h:=Ax5 [Bw9] v 0 x [r74] w hv hx Fc3
  rw[hf,Eu4] at h
  exact h)
 have HR:=Hd (fun(v:Value)(w:World)(hv:RdC w w.heap.size v [Bw9])=>by
  have h:=Ca5 [Bw9] v 0 (str (Aa9 [Bw9] 0 [r74])) w hv Ak
  unfold RecsF at h
  rw[hR] at h
  exact h)
 generalize str (Aa9 [Bw9] 0 [r74])=F at *
 clear hf hR Ak
 have HO:=fun w=>Hd (Dp2 w)
 go_enter Tryz.func22,Tryz.ntmps22
 go_wp2_with fail
 (with_reducible refine(HO _).out.mono ?_);rintro e w1 ⟨v,x,rfl,hv,hx,Aj⟩
 obtain⟨vA,vc,rfl,-,-,-⟩:=id hv
 obtain⟨xA,xc,xn,rfl,-,-,-⟩:=hx.bds
 have Ac:=Var2.new w1 (.slice vA 1 vc) (.int .i64 0) 24
 have Aa:=(Q2 w1.heap.size w1).alloc (Q1 _) (.cells #[.slice vA 1 vc,.int .i64 0] 24)
 obtain⟨X,hX⟩:∃X,w1.alloc (.cells #[.slice vA 1 vc,.int .i64 0] 24)=X:=⟨_,rfl⟩
 rw[hX] at Ac Aa
 have Ae:=hv.step Aa
 have Ad:=hx.step Aa
 have Ai:=Hd (HE.out (.slice vA 1 vc) _ _ Ae Ad)
 have HV:=Hd (fun(w:World)(h:Below X.heap.size X w)=>Ac.step h)
 have Ao:=Hd (fun(w:World)(h:Below X.heap.size X w)=>Ad.step h)
 have Ag:=Hd (fun(w:World)(h:Below X.heap.size X w)=>HR.out (.slice vA 1 vc) w (Ae.step h))
 obtain⟨v0,v1,-,-⟩:=Ac
 have HB:=Hd (Aa0 Aj Aa)
 have HX:=Hd hX
 clear hv hx Aj Aa HE Ae Ad HR hX
 go_wp2_with fail
 rw[HX.out]
 (with_reducible refine Ai.out.mono ?_);rintro e w3 ⟨rfl,Ab⟩
 obtain⟨v0,v1,-,-⟩:=HV.out _ Ab
 have Al:=Hd (Ag.out _ Ab)
 have As:=Hd Ab
 clear Ab Ag Ai
 go_wp2_with fail
 (with_reducible refine Al.out.mono ?_);rintro e w4 ⟨y,rfl,hy,Ah⟩
 obtain⟨yA,yc,yn,rfl,-,-,-⟩:=hy.bds
 have Af:=Hd (Aa0 As.out Ah)
 have Aq:=Hd (Dl6 (.slice yA yn yc) (.slice xA xn xc) [r74] [r74] w4 hy (Ao.out _ Af.out))
 clear Ah hy Al
 go_wp2_with fail
 (with_reducible refine Aq.out.mono ?_);rintro e w5 ⟨b,rfl,Ar,An⟩
 obtain rfl:b=true:=Ar.2 (by first | rfl | trivial)
 have Ap:=Hd (Aa0 HB.out (Aa0 Af.out An))
 go_wp2_with fail
 go_ret
 exact RetB.mk rfl Ap.out
end Go.P
