/- Texts of one part, joined. -/
import Derived.Test.YtnmlajmaffiigaaGreatDoorBt6
import Derived.Test.YtnmlajmaffiigaaGreatDoorBt3
import Derived.Test.YtnmlajmaffiigaaGreatDoorGk
import Derived.Test.YtnmlajmaffiigaaGreatDoorBtO
import Derived.Deep.RegionWith
set_option linter.constructorNameAsVariable false
set_option maxRecDepth 100000
set_option maxHeartbeats 2000000
open Go Go.Proofs Go.Proofs.YtnmlajmaffiigaaGreatDoor Go.P
namespace Go.RS
open RowKit VB VS VL SC CK Go.ST MK
theorem Bi2{α:Type}{L:Lay α}{e:TypeId}{w:World}{b:Nat}{v:Value}{l:List α}(h:OwnK L e w b v l):∃A n c,v=.slice A n c:=by
 rcases h.forms with⟨rfl,_⟩ | ⟨g,c,rfl,_⟩
 ·exact⟨none,0,0,rfl⟩
 ·exact⟨_,_,_,rfl⟩
section
variable {e:TypeId} {W w w':World} {b b':Nat} {ps:List Sl} {rs:List (List Rc)}
end
end Go.RS
namespace Go.P
open RowKit VB VS VL SC CK Go.ST MK RS
end Go.P
namespace Go.RS
open RowKit VB VS VL SC CK Go.ST MK
theorem Ex4(ty:Int)(k:Nat)(l:List Rc):(Bc9 ty k l).Pairwise (fun a b=>Am1 ty k a b=true):=(srtL_spec (Ag6 ty k) l).srt
theorem Bs1 {ty:Int} {k j kk:Nat} {l O:List Rc} {r:Rc} (hr:l[j]?=some r) (hO:O=Bc9 ty k (l.take j)) (hg:∀(i:Nat)(x:Rc),kk<=i->O[i]?=some x->Am1 ty k x r=false)
   (hl:kk=0\/∃y,O[kk-1]?=some y/\Am1 ty k y r=true):O.take kk++r::O.drop kk=Bc9 ty k (l.take (j+1)):=by
 subst hO
 refine Dk1 ?_
 rw[take_snoc hr]
 refine IsS.ins (Ag6 ty k) (by rw[List.take_append_drop];exact srtL_spec (Ag6 ty k) _) (fun x hx=>?_) (fun x hx=>?_)
 ·rcases hl with h0 | ⟨y,hy,Aa⟩
  ·subst h0;simp at hx
  ·obtain⟨i,hi,rfl⟩:=List.mem_iff_getElem.1 hx
   rw[List.length_take] at hi
   rw[List.getElem_take]
   by_cases he:i=kk-1
   ·subst he
    rw[Q7 (by omega)] at hy
    cases hy;exact Aa
   ·have hk:kk-1<(Bc9 ty k (l.take j)).length:=(List.getElem?_eq_some_iff.1 hy).1
    have hp:=List.pairwise_iff_getElem.1 (Ex4 ty k (l.take j)) i (kk-1) (by omega) hk (by omega)
    rw[Q7 hk] at hy
    cases hy
    exact(Ag6 ty k).trans _ _ _ hp Aa
 ·obtain⟨i,hi,rfl⟩:=List.mem_iff_getElem.1 hx
  rw[List.length_drop] at hi
  rw[List.getElem_drop]
  exact hg (kk+i) _ (by omega) (Q7 _)
end Go.RS
namespace Go.P
open RowKit VB VS VL SC CK Go.ST MK RS
theorem Bn8(cs:List Col)(v:Value)(k:Nat)(r:Rc)(xa:Value)(w:World)(hS:RdC w w.heap.size v cs)(hx:RdL w w.heap.size xa r.row)(hk:k<r.row.length):
   Calls Tryz.prog 30 #[.agg #[v,.int .i64 (k:Int)],.agg #[.int .i64 r.seq,xa]] w (RetB (.agg #[.bool (Ac9 k r).nu,.int .i64 (Ac9 k r).n,.string (Ac9 k r).s,.int .i64 r.seq]) w):=by
 obtain⟨A2,c2,rfl,_,_,_⟩:=hS
 obtain⟨rA,rc,n1,rfl,h1,-,-⟩:=hx.bds
 subst h1
 obtain⟨e1,e2⟩:=Bd8 hk
 have:=Ey1 A2 cs.length c2 k r rA rc w hx
 rw[e1,e2] at this
 exact this
theorem Bh0(cs:List Col)(v:Value)(key:Int)(x:Value)(l:List Rc)(W:World)(hr:RdC W W.heap.size v cs)(hx:RdR W W.heap.size x l):
   Calls Tryz.prog 46 #[.agg #[v,.int .i64 key],x] W (RetB (.bool (Ak3 cs key l)) W):=by
 obtain⟨A,c,n,rfl,hn,Bp,Br⟩:=hx.bds
 have HN:=Hd hn;clear hn
 have HX:=Hd hx;have HR:=Hd hr
 clear hx hr
 have HV:=Hd (Var2.new W v (.int .i64 key) 24)
 have Ag:=Hd ((Q2 W.heap.size W).alloc (Q1 _) (.cells #[v,.int .i64 key] 24))
 have Bd:=Hd (show(W.alloc (.cells #[v,.int .i64 key] 24)).heap.size=W.heap.size+1 from by simp)
 have Aa:=Bz3 cs v key (.slice A n c) l (W.alloc (.cells #[v,.int .i64 key] 24)) (HR.out.step Ag.out) (HX.out.step Ag.out)
 obtain⟨v0,v1,_,_⟩:=id HV.out
 go_enter Tryz.func46,Tryz.ntmps46
 cases hv:Bg2 cs key l with
 | false=>
   rw[By0 hv]
   rw[hv] at Aa
   have Aa:=Hd Aa
   clear hv
   go_wp2_with fail
   (with_reducible refine Aa.out.mono ?_);rintro e w1 ⟨rfl,An⟩
   go_wp2_with fail
   go_ret
   exact RetB.mk rfl (Aa0 Ag.out An)
 | true=>
   rw[Aw9 hv]
   rw[hv] at Aa
   have Aa:=Hd Aa
   obtain⟨Bc,Ai⟩:=Am7 hv
   obtain⟨-,-,-,Bf,Be⟩:=Ad7 Bc
   obtain⟨k,rfl⟩:∃k:Nat,key=k:=⟨key.toNat,by omega⟩
   have Ax:k<cs.length:=by omega
   have Ah:=Hd Ai;have HKL:=Hd Ax
   clear hv Bc Ai Bf Be Ax
   rw[show Be6 cs (k:Int)=(cs.getD k col0).ty from rfl,Int.toNat_natCast]
   have Ae:=fun i a b=>Hd (Cx1 (ty:=(cs.getD k col0).ty) (k:=k) (l:=l) (i:=i) (a:=a) (b:=b))
   have Au:=Hd (Bw7 (ty:=(cs.getD k col0).ty) (k:=k) (l:=l))
   generalize Ec5 (cs.getD k col0).ty k l=E at *
   generalize Ay:(cs.getD k col0).ty=TY at *
   have Bh:=Hd Ay;clear Ay
   go_wp2_with fail
   (with_reducible refine Aa.out.mono ?_);rintro e w1 ⟨rfl,An⟩
   have Az:=Hd (show Below (W.heap.size+1) (W.alloc (.cells #[v,.int .i64 (k:Int)] 24)) w1 from An.mono (by rw[Bd.out];omega))
   clear An Aa v0 v1
   go_wp2_with fail
   go_loopw[4,5] (fun r i wr=>∃j:Nat,r=.bool false/\i=.int .i64 ((j:Int)+1)/\(j<n\/j=0)/\Below (W.heap.size+1) (W.alloc (.cells #[v,.int .i64 (k:Int)] 24)) wr/\Hid (∀(m:Nat)(a b:Rc),m+1<j+1->l[m]?=some a->l[m+1]?=some b->Ac8 TY k a b<0)) (fun _ i _=>n+1-(intOf i).toNat)
   case atStart=>exact⟨0,rfl,rfl,.inr rfl,Az.out,Hd fun m a b h=>absurd h (by omega)⟩
   case round=>
    clear Az
    obtain⟨j,rfl,rfl,hj,Ab,HF⟩:=hrel
    have Af:Below W.heap.size W wr:=Ag.out.trans (Ab.mono (Nat.le_succ _))
    have Bj:=Ab.size
    rw[Bd.out] at Bj
    by_cases Ad:j+1<n
    ·have Aw:j<l.length:=by have:=HN.out;omega
     have Aj:j+1<l.length:=by have:=HN.out;omega
     have Aq:l[j]?=some l[j]:=Q7 Aw
     have As:l[j+1]?=some l[j+1]:=Q7 Aj
     obtain⟨ad,rA,rn,rc,rfl,-,q0,q1,-,qr⟩:=(HX.out.below Af).at Aq
     obtain⟨Bq,Bg,Bn,Bi,he,-,p0,p1,-,pr⟩:=(HX.out.below Af).at As
     cases he
     have Al:=Hd Aq;have HJ2:=Hd As;clear Aq As
     generalize l[j]=R at q0 q1 qr Al
     generalize l[j+1]=T at p0 p1 pr HJ2
     clear Aw Aj
     have Bb:=(Al2 (Ah.out R (List.mem_of_getElem? Al.out))).2.2
     have Ba:=(Al2 (Ah.out T (List.mem_of_getElem? HJ2.out))).2.2
     have HA:=fun w(h:Below wr.heap.size wr w)=>Hd (Cs4 cs v k w ((HR.out.step Af).step h) HKL.out)
     rw[Bh.out] at HA
     have HB:=fun w(h:Below wr.heap.size wr w)=>Hd (Bn8 cs v k R _ w ((HR.out.step Af).step h) ((qr.more (by omega:W.heap.size<=wr.heap.size)).step h) (by rw[Bb];exact HKL.out))
     have HC:=fun w(h:Below wr.heap.size wr w)=>Hd (Bn8 cs v k T _ w ((HR.out.step Af).step h) ((pr.more (by omega:W.heap.size<=wr.heap.size)).step h) (by rw[Ba];exact HKL.out))
     have HQ:=fun w=>Hd (Dn9 TY (Ac9 k R).nu (Ac9 k R).n (Ac9 k R).s R.seq (Ac9 k T).nu (Ac9 k T).n (Ac9 k T).s T.seq w)
     have Ar:Bm0 TY ⟨(Ac9 k R).nu,(Ac9 k R).n,(Ac9 k R).s⟩ R.seq ⟨(Ac9 k T).nu,(Ac9 k T).n,(Ac9 k T).s⟩ T.seq=Ac8 TY k R T:=rfl
     rw[Ar] at HQ
     have Bs:=Hd Ar
     clear Ar Bb Ba
     generalize (Ac9 k R).nu=a1 at *
     generalize (Ac9 k R).n=a2 at *
     generalize (Ac9 k R).s=a3 at *
     generalize (Ac9 k T).nu=b1 at *
     generalize (Ac9 k T).n=b2 at *
     generalize (Ac9 k T).s=b3 at *
     have Ak:=fun w(h:Below wr.heap.size wr w)=>Hd (And.intro ((HV.out.below Ab (Nat.lt_succ_self _)).step h) (And.intro (Ab.trans (h.mono (by omega))) (Nat.zero_le 0)))
     have Ao:=fun w(h:Below wr.heap.size wr w)=>Hd (show w.cell? (ad.add (j*2))=some (.int .i64 R.seq)/\w.cell? ⟨(ad.add (j*2)).block,(ad.add (j*2)).off+1,none⟩=some (.slice rA rn rc)/\w.cell? (ad.add ((j+1)*2))=some (.int .i64 T.seq)/\w.cell? ⟨(ad.add ((j+1)*2)).block,(ad.add ((j+1)*2)).off+1,none⟩=some (.slice Bg Bn Bi) from by
      have Ad:=World.block_lt_of_cell? wr _ q0
      rw[Go.VB.block_add] at Ad
      refine⟨?_,?_,?_,?_⟩
      ·rw[h.cell (by rw[Go.VB.block_add];exact Ad)];exact q0
      ·rw[h.cell (p:=⟨(ad.add (j*2)).block,_,none⟩) (by show(ad.add (j*2)).block<_;rw[Go.VB.block_add];exact Ad)];exact q1
      ·rw[h.cell (by rw[Go.VB.block_add];exact Ad)];exact p0
      ·rw[h.cell (p:=⟨(ad.add ((j+1)*2)).block,_,none⟩) (by show(ad.add ((j+1)*2)).block<_;rw[Go.VB.block_add];exact Ad)];exact p1)
     generalize R.seq=qa at *
     generalize T.seq=qb at *
     have Bk:wrap64 ((j:Int)+1-1)=(j:Int):=by unfold wrap64;omega
     have Bm:(j:Int)+1<(n:Int):=by omega
     clear q0 q1 p0 p1 qr pr
     by_cases hc:Ac8 TY k R T<0
     ·have hd:decide (0<=Ac8 TY k R T)=false:=Q3 (by omega)
      have Bo:=Hd hc
      have Bl:=Hd (Co3 (p:=fun _ a b=>Ac8 TY k a b<0) HF.out Al.out HJ2.out hc)
      clear hc
      generalize Ac8 TY k R T=CR at *
      go_wp2_with fail
      refine Go.Confl.wp_region_confl (by simp only[List.map_cons,List.map_nil];rfl) (by kernel_rfl) (by kernel_rfl) ?_
      iterate 17
       first
       | (refine Go.Confl.chain_skip (Go.Confl.unwanted_is rfl rfl) ?_)
       | (first | apply Go.Confl.chain_is _ (Go.Confl.wanted_none rfl) | apply Go.Confl.chain_is _ (Go.Confl.wanted_is rfl rfl)
          ·intro b w hr hb K hK
           simp[Go.Confl.readFacts,Go.Confl.tmpsOf,Go.Confl.writerOf,Go.Confl.Is,Op.operands,Call.operands,List.findIdx?,List.findIdx?.go] at hr
           obtain⟨⟨v0,v1,-,-⟩,-,-⟩:=(Ak _ hb).out
           obtain⟨q0,q1,p0,p1⟩:=(Ao _ hb).out
           go_wp2_with(first
            | (go_at_call 71;(with_reducible refine(HA _ hb).out.mono ?_);rintro e w' ⟨rfl,Ac⟩)
            | (go_at_call 30;(with_reducible refine(HB _ hb).out.mono ?_);rintro e w' ⟨rfl,Ac⟩)
            | (go_at_call 30;(with_reducible refine(HC _ hb).out.mono ?_);rintro e w' ⟨rfl,Ac⟩)
            | (go_at_call 70;(with_reducible refine(HQ _).out.mono ?_);rintro e w' ⟨rfl,Ac⟩))
           try(simp only[hr];go_wp2)
           exact hK _ _ rfl (by first | exact Q2 _ _ | assumption))
       simp only[List.nil_append,List.cons_append]
      intro us w hp hb
      simp[Go.Confl.allPosts,Go.Confl.Is] at hp
      simp only[Go.Confl.putsFrom,hp,Act.put,List.setIfInBounds_toArray,List.set_cons_zero,List.set_cons_succ]
      obtain⟨-,Ap,-⟩:=(Ak _ hb).out
      clear hb HQ HA HB HC Ao
      go_wp2_with fail
      go_roundw
      case rel=>exact⟨j+1,rfl,by go_num,.inl Ad,Ap,Bl⟩
      case measure=>simp[intOf]<;>omega
     ·have hd:decide (0<=Ac8 TY k R T)=true:=Q4 (by omega)
      have HE:=Hd ((Ae j R T).out Al.out HJ2.out (by omega))
      clear hc
      generalize Ac8 TY k R T=CR at *
      go_wp2_with fail
      refine Go.Confl.wp_region_confl (by simp only[List.map_cons,List.map_nil];rfl) (by kernel_rfl) (by kernel_rfl) ?_
      iterate 17
       first
       | (refine Go.Confl.chain_skip (Go.Confl.unwanted_is rfl rfl) ?_)
       | (first | apply Go.Confl.chain_is _ (Go.Confl.wanted_none rfl) | apply Go.Confl.chain_is _ (Go.Confl.wanted_is rfl rfl)
          ·intro b w hr hb K hK
           simp[Go.Confl.readFacts,Go.Confl.tmpsOf,Go.Confl.writerOf,Go.Confl.Is,Op.operands,Call.operands,List.findIdx?,List.findIdx?.go] at hr
           obtain⟨⟨v0,v1,-,-⟩,-,-⟩:=(Ak _ hb).out
           obtain⟨q0,q1,p0,p1⟩:=(Ao _ hb).out
           go_wp2_with(first
            | (go_at_call 71;(with_reducible refine(HA _ hb).out.mono ?_);rintro e w' ⟨rfl,Ac⟩)
            | (go_at_call 30;(with_reducible refine(HB _ hb).out.mono ?_);rintro e w' ⟨rfl,Ac⟩)
            | (go_at_call 30;(with_reducible refine(HC _ hb).out.mono ?_);rintro e w' ⟨rfl,Ac⟩)
            | (go_at_call 70;(with_reducible refine(HQ _).out.mono ?_);rintro e w' ⟨rfl,Ac⟩))
           try(simp only[hr];go_wp2)
           exact hK _ _ rfl (by first | exact Q2 _ _ | assumption))
       simp only[List.nil_append,List.cons_append]
      intro us w hp hb
      simp[Go.Confl.allPosts,Go.Confl.Is] at hp
      simp only[Go.Confl.putsFrom,hp,Act.put,List.setIfInBounds_toArray,List.set_cons_zero,List.set_cons_succ]
      obtain⟨-,Ap,-⟩:=(Ak _ hb).out
      clear hb HQ HA HB HC Ao HF Ae Au
      go_wp2_with fail
      go_ret
      exact RetB.mk (by first | (rw[HE.out];rfl) | rw[HE.out]) (Ag.out.trans (Ap.mono (Nat.le_succ _)))
    ·have HE:=Hd (Au.out (fun m a b h1 h2=>HF.out m a b (by have:=(List.getElem?_eq_some_iff.1 h2).1;have:=HN.out;omega) h1 h2))
     clear HF Ae Au
     have hd:decide ((j:Int)+1<(n:Int))=false:=Q3 (by omega)
     go_wp2
     go_ret
     exact RetB.mk (by first | (rw[HE.out];rfl) | rw[HE.out]) Af
theorem Dm1(cs:List Col)(v:Value)(key:Int)(x:Value)(l:List Rc)(W:World)(hr:RdC W W.heap.size v cs)(hx:RdR W W.heap.size x l)(hz:l.length*32<=140737488351232):
   Calls Tryz.prog 33 #[.agg #[v,.int .i64 key],x] W (RetRs 67 (Ap8 cs key l) W):=by
 obtain⟨A,c,n,rfl,hn,Ej,Em⟩:=hx.bds
 have HN:=Hd hn;have HZ:=Hd hz;clear hn hz
 have hV:=Var2.new W v (.int .i64 key) 24
 have hB:=(Q2 W.heap.size W).alloc (Q1 _) (.cells #[v,.int .i64 key] 24)
 have Cc:(W.alloc (.cells #[v,.int .i64 key] 24)).heap.size=W.heap.size+1:=by simp
 have Ec:=Hd (show ∃X,W.alloc (.cells #[v,.int .i64 key] 24)=X from⟨_,rfl⟩)
 obtain⟨X,hX⟩:=Ec.out
 rw[hX] at hB hV Cc
 have Ad:=Bz3 cs v key (.slice A n c) l X (hr.step hB) (hx.step hB)
 have Db:=Hd hX;have HS1:=Hd Cc;have HB:=Hd hB
 have HX:=Hd hx;have HR:=Hd hr
 obtain⟨v0,v1,_,_⟩:=id hV
 cases hv:Bg2 cs key l with
 | false=>
   rw[Dk5 hv]
   rw[hv] at Ad
   have Ad:=Hd Ad
   clear hv hX Cc hB hr hx
   go_enter Tryz.func33,Tryz.ntmps33
   go_wp2_with fail
   rw[Db.out]
   go_wp2_with fail
   (with_reducible refine Ad.out.mono ?_);rintro e w1 ⟨rfl,Ae⟩
   go_wp2_with fail
   go_ret
   exact RetRs.mk rfl (OwnK.nil _ _ _ _) (DeepR.nil _ _) (Aa0 HB.out Ae)
 | true=>
   rw[Bg7 hv]
   rw[hv] at Ad
   have Ad:=Hd Ad
   obtain⟨Df,Bu⟩:=Am7 hv
   obtain⟨-,-,-,Dn,Dk⟩:=Ad7 Df
   obtain⟨k,rfl⟩:∃k:Nat,key=k:=⟨key.toNat,by omega⟩
   have Cu:k<cs.length:=by omega
   have Bo:=Hd (show ∀r∈l,r.row.length=cs.length from fun r hr=>(Al2 (Bu r hr)).2.2)
   have Cn:=Hd Cu;have HV:=Hd hV
   clear hv Df Bu Dn Dk Cu hV hB Cc hX hr hx
   rw[show Be6 cs (k:Int)=(cs.getD k col0).ty from rfl,Int.toNat_natCast]
   generalize Cw:(cs.getD k col0).ty=TY at *
   have Dr:=Hd Cw;clear Cw
   go_enter Tryz.func33,Tryz.ntmps33
   go_wp2_with fail
   rw[Db.out]
   go_wp2_with fail
   (with_reducible refine Ad.out.mono ?_);rintro e w1 ⟨rfl,Ae⟩
   have Da:=Hd (show Below (W.heap.size+1) X w1 from Ae.mono (by rw[HS1.out];omega))
   clear Ae Ad v0 v1
   go_wp2_with fail
   go_loopw[5,7,8,9,16] (fun ov _ _ _ iv wr=>∃(j:Nat)(ps:List Rs),iv=.int .i64 j/\j<=n/\OwnK recL 67 wr (W.heap.size+1) ov ps/\Hid (DeepR W W.heap.size ps (Bc9 TY k (l.take j)))/\Below (W.heap.size+1) X wr) (fun _ _ _ _ iv _=>n-(intOf iv).toNat)
   case atStart=>exact⟨0,[],rfl,Nat.zero_le _,OwnK.nil _ _ _ _,Hd (by rw[List.take_zero];exact DeepR.nil _ _),Da.out⟩
   case round=>
    clear Da
    obtain⟨j,ps,rfl,hj,Bc,HD,Aj⟩:=hrel
    have Az:Below W.heap.size W wr:=HB.out.trans (Aj.mono (Nat.le_succ _))
    have Dw:=Aj.size
    rw[HS1.out] at Dw
    by_cases hlt:j<n
    case neg=>
     have HF:=Hd (show l.take j=l from List.take_of_length_le (by have:=HN.out;omega))
     have hd:=(HD.out.below Az).more Az.size
     rw[HF.out] at hd
     have Dp:=Hd hd
     clear hd
     go_wp2
     go_ret
     exact RetRs.mk rfl (Bc.lower (Nat.le_succ _)) Dp.out Az
    have Ct:j<l.length:=by have:=HN.out;omega
    have Cb:l[j]?=some l[j]:=Q7 Ct
    obtain⟨ad,Ac,Aa,Ab,rfl,Cs,q0,q1,-,qr⟩:=HX.out.at Cb
    have Dh:wr.cell? (ad.add (j*2))=some (.int .i64 l[j].seq):=by rw[Az.cell (by rw[Go.VB.block_add];exact Cs)];exact q0
    have Cy:wr.cell? ⟨(ad.add (j*2)).block,(ad.add (j*2)).off+1,none⟩=some (.slice Ac Aa Ab):=by rw[Az.cell (p:=⟨(ad.add (j*2)).block,_,none⟩) (by show(ad.add (j*2)).block<_;rw[Go.VB.block_add];exact Cs)];exact q1
    have Ce:=Bo.out _ (List.mem_of_getElem? Cb)
    have HJ:=Hd Cb;clear Cb
    generalize l[j]=R at Dh Cy qr Ce HJ q0
    clear Ct q0 q1
    obtain⟨q,row⟩:=R
    simp only at Dh Cy qr Ce
    have Cr:=Hd qr
    have Ei:=Hd (qr.below Az)
    have Ee:=Hd Ce
    obtain⟨O,hO⟩:∃O,O=Bc9 TY k (l.take j):=⟨_,rfl⟩
    rw[←hO] at HD
    have HO:=Hd hO;clear hO qr Ce
    have Bp:ps.length=O.length:=HD.out.1
    have Cx:O.length<=4398046510976:=by rw[HO.out,Co2,List.length_take];have:=HZ.out;omega
    have Dz:=Hd (show ∀y∈O,y.row.length=cs.length from fun y hy=>Bo.out y (List.mem_of_mem_take (Co1 (by rw[←HO.out];exact hy))))
    have Ef:=Hd Cx;have HLEN:=Hd Bp
    clear Cx Bp
    have En:decide ((j:Int)<(n:Int))=true:=Q4 (by omega)
    have Ds:decide (j<n)=true:=Q4 hlt
    have Af:=(Q2 wr.heap.size wr).alloc (Q1 _) (.cells #[.int .i64 q,.slice Ac Aa Ab] 67)
    have Cp:=Var2.new wr (.int .i64 q) (.slice Ac Aa Ab) 67
    have Cq:(wr.alloc (.cells #[.int .i64 q,.slice Ac Aa Ab] 67)).heap.size=wr.heap.size+1:=by simp
    have Di:=Hd (show ∃Y,wr.alloc (.cells #[.int .i64 q,.slice Ac Aa Ab] 67)=Y from⟨_,rfl⟩)
    obtain⟨Y,hY⟩:=Di.out
    rw[hY] at Af Cp Cq
    have HY:=Hd hY;have HBY:=Hd (Aj.trans (Af.mono (by omega)))
    have Ah:=Hd (show ∀w,Below Y.heap.size Y w->Var2 w W.heap.size v (.int .i64 (k:Int))/\Var2 w wr.heap.size (.int .i64 q) (.slice Ac Aa Ab)/\Below (W.heap.size+1) X w/\RdL w w.heap.size (.slice Ac Aa Ab) row/\RdC w w.heap.size v cs from fun w h=>
     have h3:=(Aj.trans (Af.mono (by omega))).trans (h.mono (by omega))
     ⟨HV.out.below h3 (by omega),Cp.step h,h3,(((Ei.out.more (by omega)).step Af).step h),HR.out.step (HB.out.trans (h3.mono (Nat.le_succ _)))⟩)
    have hZ:wr.heap.size+1=Y.heap.size:=Cq.symm
    have Cd:=Hd (show W.heap.size+1<=Y.heap.size by omega)
    have Dy:=Hd (Bc.below Af)
    have Eo:=Hd Az
    clear Di Af Cp Cq hY Bc Az Aj hZ
    have Be:=Hd (show ps.length<=4398046510976 by have:=Ef.out;have:=HLEN.out;omega)
    obtain⟨WO,rfl⟩:∃WO,WO=wr:=⟨_,rfl⟩
    rcases Dy.out.forms with⟨rfl,Dl⟩ | ⟨g,cc,rfl,Bn⟩
    ·subst Dl
     have De:O=[]:=List.eq_nil_of_length_eq_zero HLEN.out.symm
     have Dc:=Hd De;clear De
     go_wp2_with fail
     rw[HY.out]
     go_loopw[8] (fun kv wi=>kv=.int .i64 0/\wi=Y) (fun _ _=>0)
     case atStart=>exact⟨rfl,rfl⟩
     case round=>
      obtain⟨rfl,rfl⟩:=hrel
      have Er:=Hd (Ah.out _ (Q2 _ _))
      go_wp2_with fail
      refine Go.Confl.wp_region_confl (by simp only[List.map_cons,List.map_nil];rfl) (by kernel_rfl) (by kernel_rfl) ?_
      iterate 18
       first
       | (refine Go.Confl.chain_skip (Go.Confl.unwanted_is rfl rfl) ?_)
       | (first | apply Go.Confl.chain_is _ (Go.Confl.wanted_none rfl) | apply Go.Confl.chain_is _ (Go.Confl.wanted_is rfl rfl)
          ·intro b w hr hb K hK
           simp[Go.Confl.readFacts,Go.Confl.tmpsOf,Go.Confl.writerOf,Go.Confl.Is,Op.operands,List.findIdx?,List.findIdx?.go] at hr
           go_wp2_with fail
           try(simp only[hr];go_wp2)
           exact hK _ _ rfl (by first | exact Q2 _ _ | assumption))
       simp only[List.nil_append,List.cons_append]
      intro us w hp hb
      simp[Go.Confl.allPosts,Go.Confl.Is] at hp
      simp only[Go.Confl.putsFrom,hp,Act.put,List.setIfInBounds_toArray,List.set_cons_zero,List.set_cons_succ]
      have Bx:=Hd (RdK.nil recL w w.heap.size)
      have Bj:=Hd (show ∀w',Below w.heap.size w w'->RdK recL w' w.heap.size (.slice none 0 0) [] from fun w' h=>RdK.nil recL _ _)
      have Bq:=Hd (show(([]:List Rc)++[(⟨q,row⟩:Rc)])++[]=Bc9 TY k (l.take (j+1)) from by
       have h:=Bs1 (kk:=0) HJ.out HO.out (fun i x _ h=>by rw[Dc.out] at h;simp at h) (.inl rfl)
       rw[←h,Dc.out];rfl)
      have Ax:=Hd (show DeepR W W.heap.size (([]++[(⟨q,⟨Ac,Aa,Ab⟩⟩:Rs)])++[]) (Bc9 TY k (l.take (j+1))) from by
       have h:=((DeepR.nil W W.heap.size).app (DeepR.one (p:=⟨q,⟨Ac,Aa,Ab⟩⟩) (r:=⟨q,row⟩) rfl Cr.out)).app (DeepR.nil W W.heap.size)
       rw[←Bq.out];exact h)
      have Br:=Hd (show W.heap.size+1<=w.heap.size by have:=Cd.out;have:=hb.size;omega)
      have Ag:=Hd (show([]:List Rs).length<=4398046510976 by have:=Be.out;simp only[Q8] at *;omega)
      have As:=Hd (show([]:List Rs).length+([]:List Rs).length<=4398046510976 by have:=Be.out;simp only[Q8] at *;omega)
      have Bm:=Hd (show([]:List Rs).length+([]:List Rs).length<=maxLen by have:=Ag.out;unfold maxLen;simp only[Q8] at *;omega)
      have Bh:=Hd (show(([]:List Rs).length+([]:List Rs).length)*32<=140737488355328 by have:=Ag.out;simp only[Q8] at *;omega)
      have Bk:=Hd (show([]++[]:List Rs).length+[(⟨q,⟨Ac,Aa,Ab⟩⟩:Rs)].length<=maxLen by have:=Ag.out;unfold maxLen;simp only[Q5,Q6,Q8] at *;omega)
      have Bg:=Hd (show(([]++[]:List Rs).length+[(⟨q,⟨Ac,Aa,Ab⟩⟩:Rs)].length)*32<=140737488355328 by have:=Ag.out;simp only[Q5,Q6,Q8] at *;omega)
      have Bz:=Hd (show(([]++[])++[(⟨q,⟨Ac,Aa,Ab⟩⟩:Rs)]).length+([]:List Rs).length<=maxLen by have:=As.out;unfold maxLen;simp only[Q5,Q6,Q8] at *;omega)
      have Bv:=Hd (show((([]++[])++[(⟨q,⟨Ac,Aa,Ab⟩⟩:Rs)]).length+([]:List Rs).length)*32<=140737488355328 by have:=As.out;simp only[Q5,Q6,Q8] at *;omega)
      have Ay:=Hd hb
      clear hb
      go_wp2_with(first
       | (at_builtin;refine Af5 (L:=recL) rfl _ _ 25 rfl w.heap.size 67 32 Tryz.underlying25 Tryz.infRec (.slice none 0 0) [] rfl (OwnK.nil _ _ _ _) w.heap.size _ ([]) rfl Bx.out Bm.out Bh.out (Q1 _) ?_
          intro v1 w1 An Ae _
          obtain⟨sA,sn,sc,rfl⟩:=Bi2 An
          obtain⟨-,⟨y0,y1,-,-⟩,-,-,-⟩:=Ah.out w1 (Aa0 Ay.out Ae)
          have Bi:=Hd (An.alloc (.cells #[.int .i64 q,.slice Ac Aa Ab] 67))
          have Bl:=Hd (RdK.lit (L:=recL) w1 [(⟨q,⟨Ac,Aa,Ab⟩⟩:Rs)] 1 67 (Q1 1) (by decide))
          have Aq:=Hd (Ae.alloc Ae.size (.cells #[.int .i64 q,.slice Ac Aa Ab] 67))
          clear An)
       | (at_builtin;refine Af5 (L:=recL) rfl _ _ 25 rfl w.heap.size 67 32 Tryz.underlying25 Tryz.infRec (.slice sA sn sc) ([]++[]) rfl Bi.out _ _ [(⟨q,⟨Ac,Aa,Ab⟩⟩:Rs)] rfl Bl.out Bk.out Bg.out Aq.out.size ?_
          intro v2 w2 Au Af _
          have Al:=Hd (Aq.out.trans Af)
          have By:=Hd (Bj.out w2 Al.out)
          have Bt:=Hd Au
          clear Au Af y0 y1)
       | (at_builtin;refine Af5 (L:=recL) rfl _ _ 25 rfl w.heap.size 67 32 Tryz.underlying25 Tryz.infRec v2 (([]++[])++[(⟨q,⟨Ac,Aa,Ab⟩⟩:Rs)]) rfl Bt.out w.heap.size _ ([]) rfl By.out Bz.out Bv.out Al.out.size ?_
          intro v3 w3 Ap Aw _))
      have Ar:=Hd ((Ah.out w3 (Aa0 Ay.out (Al.out.trans Aw))).2.2.1)
      have Ai:=OwnK.lower Ap Br.out
      rw[List.nil_append] at Ai
      have Ba:=Hd Ai
      clear Ap Aw Ai
      go_roundw
      all_goals first
       | (simp[intOf];omega)
       | exact⟨j+1,_,by go_num,hlt,Ba.out,Ax,Ar.out⟩
       | exact⟨_,_,_,_,_,⟨j+1,_,by go_num,hlt,Ba.out,Ax,Ar.out⟩,rfl,rfl,rfl,rfl,rfl⟩
    ·have Bd:=Hd Bn;clear Bn
     have Dt:ps.length<=cc/\cc<=9223372036854775807:=by
      obtain⟨A',c',n',he,h1,h2,h3⟩:=(OwnK.read Bd.out).bds
      cases he
      exact⟨by omega,h3⟩
     obtain⟨Co,Dv⟩:=Dt
     obtain⟨m,hm⟩:∃m,ps.length=m:=⟨_,rfl⟩
     rw[hm] at Co
     have HM:=Hd hm
     rw[hm]
     clear hm
     go_wp2_with fail
     rw[HY.out]
     go_loopw[8] (fun kv wi=>∃kk:Nat,kv=.int .i64 kk/\kk<=m/\Hid (∀(i:Nat)(x:Rc),kk<=i->O[i]?=some x->Am1 TY k x ⟨q,row⟩=false)/\Below Y.heap.size Y wi) (fun kv _=>(intOf kv).toNat)
     case atStart=>exact⟨m,rfl,Q1 _,Hd (fun i x h1 h2=>absurd (List.getElem?_eq_some_iff.1 h2).1 (by have:=HM.out;have:=HLEN.out;omega)),Q2 _ _⟩
     case round=>
      obtain⟨kk,rfl,Ep,HG,Ak⟩:=hrel
      have Ci:=Hd (show RdR Y Y.heap.size (.slice (some ⟨g,0,none⟩) m cc) O from⟨ps,by have h:=OwnK.read Bd.out;rw[HM.out] at h;exact h,(HD.out.below (HB.out.trans (HBY.out.mono (Nat.le_succ _)))).more (by have:=Cd.out;omega)⟩)
      have Ed:=Hd (show RdK recL Y Y.heap.size (.slice (some ⟨g,0,none⟩) m cc) ps from by have h:=OwnK.read Bd.out;rw[HM.out] at h;exact h)
      have Ao:=Hd (show ∀w,Below Y.heap.size Y w->RdK recL w w.heap.size (.slice (some ⟨g,0,none⟩) kk cc) (ps.take kk)/\RdK recL w w.heap.size (.slice (if cc=kk then some ⟨g,0,none⟩ else some ⟨g,kk*2,none⟩) (m-kk) (cc-kk)) (ps.drop kk) from fun w h=>by
       have h0:=Ed.out.step h
       refine⟨?_,?_⟩
       ·have h1:=h0.head (m:=ps.take kk) (by rw[List.length_take];congr 1;have:=HM.out;omega) (by rw[List.length_take];omega)
        rw[show(ps.take kk).length=kk by rw[List.length_take];have:=HM.out;omega] at h1
        exact h1
       ·have h1:=h0.cutC (i:=kk) (by have:=HM.out;omega)
        rw[Cx2] at h1
        exact h1)
      have El:kk<=cc:=by omega
      by_cases h0:0<kk
      case neg=>
       have Du:decide ((0:Int)<(kk:Int))=false:=Q3 (by omega)
       have Cg:decide (0<kk)=false:=Q3 h0
       have Dm:=Hd (show kk=0 by omega)
       go_wp2_with fail
       refine Go.Confl.wp_region_confl (by simp only[List.map_cons,List.map_nil];rfl) (by kernel_rfl) (by kernel_rfl) ?_
       iterate 18
        first
        | (refine Go.Confl.chain_skip (Go.Confl.unwanted_is rfl rfl) ?_)
        | (first | apply Go.Confl.chain_is _ (Go.Confl.wanted_none rfl) | apply Go.Confl.chain_is _ (Go.Confl.wanted_is rfl rfl)
           ·intro b w hr hb K hK
            simp[Go.Confl.readFacts,Go.Confl.tmpsOf,Go.Confl.writerOf,Go.Confl.Is,Op.operands,List.findIdx?,List.findIdx?.go] at hr
            go_wp2_with fail
            try(simp only[hr];go_wp2)
            exact hK _ _ rfl (by first | exact Q2 _ _ | assumption))
        simp only[List.nil_append,List.cons_append]
       intro us w hp hb
       simp[Go.Confl.allPosts,Go.Confl.Is] at hp
       simp only[Go.Confl.putsFrom,hp,Act.put,List.setIfInBounds_toArray,List.set_cons_zero,List.set_cons_succ]
       have hb:Below Y.heap.size Y w:=Aa0 Ak hb
       have Bx:=Hd (Ao.out w hb).1
       have Bj:=Hd (show ∀w',Below w.heap.size w w'->RdK recL w' w.heap.size (.slice (if cc=kk then some ⟨g,0,none⟩ else some ⟨g,kk*2,none⟩) (m-kk) (cc-kk)) (ps.drop kk) from fun w' h=>(Ao.out w hb).2.below h)
       have Bq:=Hd (show(O.take kk++[(⟨q,row⟩:Rc)])++O.drop kk=Bc9 TY k (l.take (j+1)) from by
        have h:=Bs1 (kk:=kk) HJ.out HO.out HG.out (.inl Dm.out)
        rw[←h,List.append_assoc];rfl)
       have Ax:=Hd (show DeepR W W.heap.size ((ps.take kk++[(⟨q,⟨Ac,Aa,Ab⟩⟩:Rs)])++ps.drop kk) (Bc9 TY k (l.take (j+1))) from by
        have h:=((HD.out.take kk).app (DeepR.one (p:=⟨q,⟨Ac,Aa,Ab⟩⟩) (r:=⟨q,row⟩) rfl Cr.out)).app (HD.out.drop kk)
        rw[←Bq.out];exact h)
       have Br:=Hd (show W.heap.size+1<=w.heap.size by have:=Cd.out;have:=hb.size;omega)
       have Ag:=Hd (show(ps.take kk:List Rs).length<=4398046510976 by have:=Be.out;simp only[List.length_take] at *;omega)
       have As:=Hd (show(ps.take kk:List Rs).length+(ps.drop kk:List Rs).length<=4398046510976 by have:=Be.out;simp only[List.length_take,List.length_drop] at *;omega)
       have Bm:=Hd (show([]:List Rs).length+(ps.take kk:List Rs).length<=maxLen by have:=Ag.out;unfold maxLen;simp only[Q8] at *;omega)
       have Bh:=Hd (show(([]:List Rs).length+(ps.take kk:List Rs).length)*32<=140737488355328 by have:=Ag.out;simp only[Q8] at *;omega)
       have Bk:=Hd (show([]++ps.take kk:List Rs).length+[(⟨q,⟨Ac,Aa,Ab⟩⟩:Rs)].length<=maxLen by have:=Ag.out;unfold maxLen;simp only[Q5,Q6,Q8] at *;omega)
       have Bg:=Hd (show(([]++ps.take kk:List Rs).length+[(⟨q,⟨Ac,Aa,Ab⟩⟩:Rs)].length)*32<=140737488355328 by have:=Ag.out;simp only[Q5,Q6,Q8] at *;omega)
       have Bz:=Hd (show(([]++ps.take kk)++[(⟨q,⟨Ac,Aa,Ab⟩⟩:Rs)]).length+(ps.drop kk:List Rs).length<=maxLen by have:=As.out;unfold maxLen;simp only[Q5,Q6,Q8] at *;omega)
       have Bv:=Hd (show((([]++ps.take kk)++[(⟨q,⟨Ac,Aa,Ab⟩⟩:Rs)]).length+(ps.drop kk:List Rs).length)*32<=140737488355328 by have:=As.out;simp only[Q5,Q6,Q8] at *;omega)
       have Ay:=Hd hb
       clear hb
       go_wp2_with(first
        | (at_builtin;refine Af5 (L:=recL) rfl _ _ 25 rfl w.heap.size 67 32 Tryz.underlying25 Tryz.infRec (.slice none 0 0) [] rfl (OwnK.nil _ _ _ _) w.heap.size _ (ps.take kk) rfl Bx.out Bm.out Bh.out (Q1 _) ?_
           intro v1 w1 An Ae _
           obtain⟨sA,sn,sc,rfl⟩:=Bi2 An
           obtain⟨-,⟨y0,y1,-,-⟩,-,-,-⟩:=Ah.out w1 (Aa0 Ay.out Ae)
           have Bi:=Hd (An.alloc (.cells #[.int .i64 q,.slice Ac Aa Ab] 67))
           have Bl:=Hd (RdK.lit (L:=recL) w1 [(⟨q,⟨Ac,Aa,Ab⟩⟩:Rs)] 1 67 (Q1 1) (by decide))
           have Aq:=Hd (Ae.alloc Ae.size (.cells #[.int .i64 q,.slice Ac Aa Ab] 67))
           clear An)
        | (at_builtin;refine Af5 (L:=recL) rfl _ _ 25 rfl w.heap.size 67 32 Tryz.underlying25 Tryz.infRec (.slice sA sn sc) ([]++ps.take kk) rfl Bi.out _ _ [(⟨q,⟨Ac,Aa,Ab⟩⟩:Rs)] rfl Bl.out Bk.out Bg.out Aq.out.size ?_
           intro v2 w2 Au Af _
           have Al:=Hd (Aq.out.trans Af)
           have By:=Hd (Bj.out w2 Al.out)
           have Bt:=Hd Au
           clear Au Af y0 y1)
        | (at_builtin;refine Af5 (L:=recL) rfl _ _ 25 rfl w.heap.size 67 32 Tryz.underlying25 Tryz.infRec v2 (([]++ps.take kk)++[(⟨q,⟨Ac,Aa,Ab⟩⟩:Rs)]) rfl Bt.out w.heap.size _ (ps.drop kk) rfl By.out Bz.out Bv.out Al.out.size ?_
           intro v3 w3 Ap Aw _))
       have Ar:=Hd ((Ah.out w3 (Aa0 Ay.out (Al.out.trans Aw))).2.2.1)
       have Ai:=OwnK.lower Ap Br.out
       rw[List.nil_append] at Ai
       have Ba:=Hd Ai
       clear Ap Aw Ai
       go_roundw
       all_goals first
        | (simp[intOf];omega)
        | exact⟨j+1,_,by go_num,hlt,Ba.out,Ax,Ar.out⟩
        | exact⟨_,_,_,_,_,⟨j+1,_,by go_num,hlt,Ba.out,Ax,Ar.out⟩,rfl,rfl,rfl,rfl,rfl⟩
      obtain⟨p,hp⟩:∃p,p=kk-1:=⟨_,rfl⟩
      have Dj:p<O.length:=by have:=HM.out;have:=HLEN.out;omega
      have Cf:O[p]?=some O[p]:=Q7 Dj
      obtain⟨Ek,yA,yn,yc,Eg,Bw,p0,p1,-,pr⟩:=Ci.out.at Cf
      cases Eg
      rw[Cx2] at p0 p1
      have Ch:=Dz.out _ (List.mem_of_getElem? Cf)
      have Cj:=Hd Cf
      generalize O[p]=y at p0 p1 pr Ch Cj
      have HA:=fun w(h:Below wr.heap.size wr w)=>Hd (Cs4 cs v k w (Ah.out w (Aa0 Ak h)).2.2.2.2 Cn.out)
      rw[Dr.out] at HA
      have Ca:=fun w(h:Below wr.heap.size wr w)=>Hd (Bn8 cs v k ⟨q,row⟩ _ w (Ah.out w (Aa0 Ak h)).2.2.2.2 (Ah.out w (Aa0 Ak h)).2.2.2.1 (by show k<row.length;rw[Ee.out];exact Cn.out))
      have Bf:=fun w(h:Below wr.heap.size wr w)=>Hd (Bn8 cs v k y _ w (Ah.out w (Aa0 Ak h)).2.2.2.2 (pr.step (Aa0 Ak h)) (by rw[Ch];exact Cn.out))
      have HQ:=fun w=>Hd (Dn9 TY (Ac9 k ⟨q,row⟩).nu (Ac9 k ⟨q,row⟩).n (Ac9 k ⟨q,row⟩).s q (Ac9 k y).nu (Ac9 k y).n (Ac9 k y).s y.seq w)
      have Dd:Bm0 TY ⟨(Ac9 k ⟨q,row⟩).nu,(Ac9 k ⟨q,row⟩).n,(Ac9 k ⟨q,row⟩).s⟩ q ⟨(Ac9 k y).nu,(Ac9 k y).n,(Ac9 k y).s⟩ y.seq=Ac8 TY k ⟨q,row⟩ y:=rfl
      rw[Dd] at HQ
      have Bs:=Hd (show ∀w,Below wr.heap.size wr w->w.cell? ⟨g,p*2,none⟩=some (.int .i64 y.seq)/\w.cell? ⟨g,p*2+1,none⟩=some (.slice yA yn yc) from fun w h=>by
       have h2:=Aa0 Ak h
       exact⟨by rw[h2.cell (p:=⟨g,p*2,none⟩) Bw];exact p0,by rw[h2.cell (p:=⟨g,p*2+1,none⟩) Bw];exact p1⟩)
      simp only at Ca
      clear Dd Ch p0 p1 pr Cf
      generalize (Ac9 k ⟨q,row⟩).nu=a1 at *
      generalize (Ac9 k ⟨q,row⟩).n=a2 at *
      generalize (Ac9 k ⟨q,row⟩).s=a3 at *
      generalize (Ac9 k y).nu=b1 at *
      generalize (Ac9 k y).n=b2 at *
      generalize (Ac9 k y).s=b3 at *
      obtain⟨qy,Cz⟩:∃qy,y.seq=qy:=⟨_,rfl⟩
      rw[Cz] at Bf HQ Bs
      obtain⟨CR,Cl⟩:∃CR,Ac8 TY k ⟨q,row⟩ y=CR:=⟨_,rfl⟩
      rw[Cl] at HQ
      have Dg:=Hd Cl
      clear Cz Cl
      have Du:decide ((0:Int)<(kk:Int))=true:=Q4 (by omega)
      have Cg:decide (0<kk)=true:=Q4 h0
      have Ck:(kk:Int)-1=(p:Int):=by omega
      have Eb:(p:Int)<(m:Int):=by omega
      have Cm:=Hd (show kk=p+1 by omega)
      clear hp Dj
      by_cases hc:CR<0
      ·have hd:decide (CR<0)=true:=Q4 hc
       have Ea:=Hd (show ∀(i:Nat)(x:Rc),p<=i->O[i]?=some x->Am1 TY k x ⟨q,row⟩=false from fun i x h1 h2=>by
        by_cases he:i=p
        ·subst he;rw[Cj.out] at h2;cases h2;exact recLe_neg.2 (by rw[Dg.out];exact hc)
        ·exact HG.out i x (by have:=Cm.out;omega) h2)
       have Eh:=Hd (show p<=m by omega)
       have Cv:=Hd (show p<kk by have:=Cm.out;omega)
       clear hc
       go_wp2_with fail
       refine Go.Confl.wp_region_confl (by simp only[List.map_cons,List.map_nil];rfl) (by kernel_rfl) (by kernel_rfl) ?_
       iterate 18
        first
        | (refine Go.Confl.chain_skip (Go.Confl.unwanted_is rfl rfl) ?_)
        | (first | apply Go.Confl.chain_is _ (Go.Confl.wanted_none rfl) | apply Go.Confl.chain_is _ (Go.Confl.wanted_is rfl rfl)
           ·intro b w hr hb K hK
            simp[Go.Confl.readFacts,Go.Confl.tmpsOf,Go.Confl.writerOf,Go.Confl.Is,Op.operands,Call.operands,List.findIdx?,List.findIdx?.go] at hr
            obtain⟨⟨v0,v1,-,-⟩,⟨m0,m1,-,-⟩,-⟩:=Ah.out _ (Aa0 Ak hb)
            obtain⟨q0,q1⟩:=Bs.out _ hb
            go_wp2_with(first
             | (go_at_call 71;(with_reducible refine(HA _ hb).out.mono ?_);rintro e w' ⟨rfl,Bb⟩)
             | (go_at_call 30;(with_reducible refine(Ca _ hb).out.mono ?_);rintro e w' ⟨rfl,Bb⟩)
             | (go_at_call 30;(with_reducible refine(Bf _ hb).out.mono ?_);rintro e w' ⟨rfl,Bb⟩)
             | (go_at_call 70;(with_reducible refine(HQ _).out.mono ?_);rintro e w' ⟨rfl,Bb⟩))
            try(simp only[hr];go_wp2)
            exact hK _ _ rfl (by first | exact Q2 _ _ | assumption))
        simp only[List.nil_append,List.cons_append]
       intro us w hp hb
       simp[Go.Confl.allPosts,Go.Confl.Is] at hp
       simp only[Go.Confl.putsFrom,hp,Act.put,List.setIfInBounds_toArray,List.set_cons_zero,List.set_cons_succ]
       have Dx:=Hd (Aa0 Ak hb)
       clear hb HA Ca Bf HQ Bs
       go_wp2_with fail
       go_roundw
       all_goals first
        | exact⟨p,rfl,Eh.out,Ea,Dx.out⟩
        | (have:=Cv.out;simp[intOf];omega)
        | (have:=Cv.out;simp only[intOf];omega)
      ·have hd:decide (CR<0)=false:=Q3 hc
       have Dq:=Hd (show ∃z,O[kk-1]?=some z/\Am1 TY k z ⟨q,row⟩=true from⟨y,by rw[show kk-1=p by have:=Cm.out;omega];exact Cj.out,by
        cases h:Am1 TY k y ⟨q,row⟩ with
        | true=>rfl
        | false=>exact absurd (recLe_neg.1 h) (by rw[Dg.out];exact hc)⟩)
       clear hc
       go_wp2_with fail
       refine Go.Confl.wp_region_confl (by simp only[List.map_cons,List.map_nil];rfl) (by kernel_rfl) (by kernel_rfl) ?_
       iterate 18
        first
        | (refine Go.Confl.chain_skip (Go.Confl.unwanted_is rfl rfl) ?_)
        | (first | apply Go.Confl.chain_is _ (Go.Confl.wanted_none rfl) | apply Go.Confl.chain_is _ (Go.Confl.wanted_is rfl rfl)
           ·intro b w hr hb K hK
            simp[Go.Confl.readFacts,Go.Confl.tmpsOf,Go.Confl.writerOf,Go.Confl.Is,Op.operands,Call.operands,List.findIdx?,List.findIdx?.go] at hr
            obtain⟨⟨v0,v1,-,-⟩,⟨m0,m1,-,-⟩,-⟩:=Ah.out _ (Aa0 Ak hb)
            obtain⟨q0,q1⟩:=Bs.out _ hb
            go_wp2_with(first
             | (go_at_call 71;(with_reducible refine(HA _ hb).out.mono ?_);rintro e w' ⟨rfl,Bb⟩)
             | (go_at_call 30;(with_reducible refine(Ca _ hb).out.mono ?_);rintro e w' ⟨rfl,Bb⟩)
             | (go_at_call 30;(with_reducible refine(Bf _ hb).out.mono ?_);rintro e w' ⟨rfl,Bb⟩)
             | (go_at_call 70;(with_reducible refine(HQ _).out.mono ?_);rintro e w' ⟨rfl,Bb⟩))
            try(simp only[hr];go_wp2)
            exact hK _ _ rfl (by first | exact Q2 _ _ | assumption))
        simp only[List.nil_append,List.cons_append]
       intro us w hp hb
       simp[Go.Confl.allPosts,Go.Confl.Is] at hp
       simp only[Go.Confl.putsFrom,hp,Act.put,List.setIfInBounds_toArray,List.set_cons_zero,List.set_cons_succ]
       have hb:Below Y.heap.size Y w:=Aa0 Ak hb
       have Bx:=Hd (Ao.out w hb).1
       have Bj:=Hd (show ∀w',Below w.heap.size w w'->RdK recL w' w.heap.size (.slice (if cc=kk then some ⟨g,0,none⟩ else some ⟨g,kk*2,none⟩) (m-kk) (cc-kk)) (ps.drop kk) from fun w' h=>(Ao.out w hb).2.below h)
       clear HA Ca Bf HQ Bs Ck Eb
       have Bq:=Hd (show(O.take kk++[(⟨q,row⟩:Rc)])++O.drop kk=Bc9 TY k (l.take (j+1)) from by
        have h:=Bs1 (kk:=kk) HJ.out HO.out HG.out (.inr Dq.out)
        rw[←h,List.append_assoc];rfl)
       have Ax:=Hd (show DeepR W W.heap.size ((ps.take kk++[(⟨q,⟨Ac,Aa,Ab⟩⟩:Rs)])++ps.drop kk) (Bc9 TY k (l.take (j+1))) from by
        have h:=((HD.out.take kk).app (DeepR.one (p:=⟨q,⟨Ac,Aa,Ab⟩⟩) (r:=⟨q,row⟩) rfl Cr.out)).app (HD.out.drop kk)
        rw[←Bq.out];exact h)
       have Br:=Hd (show W.heap.size+1<=w.heap.size by have:=Cd.out;have:=hb.size;omega)
       have Ag:=Hd (show(ps.take kk:List Rs).length<=4398046510976 by have:=Be.out;simp only[List.length_take] at *;omega)
       have As:=Hd (show(ps.take kk:List Rs).length+(ps.drop kk:List Rs).length<=4398046510976 by have:=Be.out;simp only[List.length_take,List.length_drop] at *;omega)
       have Bm:=Hd (show([]:List Rs).length+(ps.take kk:List Rs).length<=maxLen by have:=Ag.out;unfold maxLen;simp only[Q8] at *;omega)
       have Bh:=Hd (show(([]:List Rs).length+(ps.take kk:List Rs).length)*32<=140737488355328 by have:=Ag.out;simp only[Q8] at *;omega)
       have Bk:=Hd (show([]++ps.take kk:List Rs).length+[(⟨q,⟨Ac,Aa,Ab⟩⟩:Rs)].length<=maxLen by have:=Ag.out;unfold maxLen;simp only[Q5,Q6,Q8] at *;omega)
       have Bg:=Hd (show(([]++ps.take kk:List Rs).length+[(⟨q,⟨Ac,Aa,Ab⟩⟩:Rs)].length)*32<=140737488355328 by have:=Ag.out;simp only[Q5,Q6,Q8] at *;omega)
       have Bz:=Hd (show(([]++ps.take kk)++[(⟨q,⟨Ac,Aa,Ab⟩⟩:Rs)]).length+(ps.drop kk:List Rs).length<=maxLen by have:=As.out;unfold maxLen;simp only[Q5,Q6,Q8] at *;omega)
       have Bv:=Hd (show((([]++ps.take kk)++[(⟨q,⟨Ac,Aa,Ab⟩⟩:Rs)]).length+(ps.drop kk:List Rs).length)*32<=140737488355328 by have:=As.out;simp only[Q5,Q6,Q8] at *;omega)
       have Ay:=Hd hb
       clear hb
       go_wp2_with(first
        | (at_builtin;refine Af5 (L:=recL) rfl _ _ 25 rfl w.heap.size 67 32 Tryz.underlying25 Tryz.infRec (.slice none 0 0) [] rfl (OwnK.nil _ _ _ _) w.heap.size _ (ps.take kk) rfl Bx.out Bm.out Bh.out (Q1 _) ?_
           intro v1 w1 An Ae _
           obtain⟨sA,sn,sc,rfl⟩:=Bi2 An
           obtain⟨-,⟨y0,y1,-,-⟩,-,-,-⟩:=Ah.out w1 (Aa0 Ay.out Ae)
           have Bi:=Hd (An.alloc (.cells #[.int .i64 q,.slice Ac Aa Ab] 67))
           have Bl:=Hd (RdK.lit (L:=recL) w1 [(⟨q,⟨Ac,Aa,Ab⟩⟩:Rs)] 1 67 (Q1 1) (by decide))
           have Aq:=Hd (Ae.alloc Ae.size (.cells #[.int .i64 q,.slice Ac Aa Ab] 67))
           clear An)
        | (at_builtin;refine Af5 (L:=recL) rfl _ _ 25 rfl w.heap.size 67 32 Tryz.underlying25 Tryz.infRec (.slice sA sn sc) ([]++ps.take kk) rfl Bi.out _ _ [(⟨q,⟨Ac,Aa,Ab⟩⟩:Rs)] rfl Bl.out Bk.out Bg.out Aq.out.size ?_
           intro v2 w2 Au Af _
           have Al:=Hd (Aq.out.trans Af)
           have By:=Hd (Bj.out w2 Al.out)
           have Bt:=Hd Au
           clear Au Af y0 y1)
        | (at_builtin;refine Af5 (L:=recL) rfl _ _ 25 rfl w.heap.size 67 32 Tryz.underlying25 Tryz.infRec v2 (([]++ps.take kk)++[(⟨q,⟨Ac,Aa,Ab⟩⟩:Rs)]) rfl Bt.out w.heap.size _ (ps.drop kk) rfl By.out Bz.out Bv.out Al.out.size ?_
           intro v3 w3 Ap Aw _))
       have Ar:=Hd ((Ah.out w3 (Aa0 Ay.out (Al.out.trans Aw))).2.2.1)
       have Ai:=OwnK.lower Ap Br.out
       rw[List.nil_append] at Ai
       have Ba:=Hd Ai
       clear Ap Aw Ai
       go_roundw
       all_goals first
        | (simp[intOf];omega)
        | exact⟨j+1,_,by go_num,hlt,Ba.out,Ax,Ar.out⟩
        | exact⟨_,_,_,_,_,⟨j+1,_,by go_num,hlt,Ba.out,Ax,Ar.out⟩,rfl,rfl,rfl,rfl,rfl⟩
end Go.P

namespace Go.RS
open RowKit VB VS SC CK Go.ST MK
section
variable {w0 w w':World} {B B2 g base:Nat} {sv:Value} {zl:List Int}
theorem Be3{e:TypeId}{s n:Nat}{v:Value}{xs:List Value}(hs:Go.KV.Src w0 w B g sv zl)(h:w0.ownsRow base e s v n xs)(hg:g<base):w.ownsRow base e s v n xs:=by
 refine World.ownsRow.kept (row:=some g) h ⟨hs.gb.os,hs.gb.tape,hs.gb.output,hs.gb.size,fun k hk hne=>hs.gb.block k hk (fun e0=>hne (by rw[e0]))⟩ (.inr fun e0=>?_)
 have:=(World.ownsRow.lt h g e0).1
 omega
theorem DeepO.src{e:TypeId}{ps:List Rs}{l:List Rc}(hs:Go.KV.Src w0 w B g sv zl)(h:DeepO e w0 base ps l)(hg:g<base):DeepO e w base ps l:=⟨h.1,fun i p r h1 h2=>⟨(h.2 i p r h1 h2).1,Be3 hs (h.2 i p r h1 h2).2 hg⟩⟩
theorem Bd5(h1:Go.KV.Src w0 w B g sv zl)(h2:Go.KV.Src w w' B2 g sv zl):Go.KV.Src w0 w' B g sv zl:=
 ⟨⟨h2.gb.os.trans h1.gb.os,h2.gb.tape.trans h1.gb.tape,h2.gb.output.trans h1.gb.output,Nat.le_trans h1.gb.size h2.gb.size,fun b hb hne=>(h2.gb.block b (Nat.lt_of_lt_of_le hb h1.gb.size) hne).trans (h1.gb.block b hb hne)⟩,h1.base,h1.lt0,h2.c0,h2.c1,h2.fr,h1.rd,h1.wf⟩
end
def InV(l:List Vl):Prop:=∀x∈l,-9223372036854775808<=x.n/\x.n<=9223372036854775807
def InR(l:List Rc):Prop:=∀r∈l,InV r.row
theorem InV.snoc{l:List Vl}{x:Vl}(h:InV l)(hx:-9223372036854775808<=x.n/\x.n<=9223372036854775807):InV (l++[x]):=by
 intro y hy
 rcases List.mem_append.1 hy with hy | hy
 ·exact h y hy
 ·rw[List.mem_singleton.1 hy];exact hx
def KRow(e:TypeId)(cs:List Col)(w:World)(g:Nat)(v:Value)(zl:List Int):Ending->World->Prop:=fun en w'=>∃u l,en=.returned u/\OwnL e w' w.heap.size u l/\(Ag5 cs l=0/\InV l)/\Go.KV.Src w w' g g v zl
theorem KRow.mk{e:TypeId}{cs:List Col}{w w':World}{g:Nat}{v:Value}{zl:List Int}{x u:Value}{l:List Vl}(hx:x=u)(ho:OwnL e w' w.heap.size u l)(hl:Ag5 cs l=0/\InV l)(hs:Go.KV.Src w w' g g v zl):KRow e cs w g v zl (.returned x) w':=⟨u,l,by rw[hx],ho,hl,hs⟩
def SnP(w:World)(g:Nat)(v:Value)(zl:List Int)(n:Int):Ending->World->Prop:=fun en w'=>∃r:Nat,en=.returned (.int .i64 (r:Int))/\(r:Int)<n/\Go.KV.Src w w' g g v zl
theorem Eo9{cs:List Col}{l:List Vl}{x:Vl}(h:∀(k:Nat)(y:Vl),l[k]?=some y->Ae6 (cs.getD k col0).ty (cs.getD k col0).nu y=0)(hx:Ae6 (cs.getD l.length col0).ty (cs.getD l.length col0).nu x=0):
   ∀(k:Nat)(y:Vl),(l++[x])[k]?=some y->Ae6 (cs.getD k col0).ty (cs.getD k col0).nu y=0:=by
 intro k y hy
 by_cases hk:k<l.length
 ·rw[List.getElem?_append_left hk] at hy;exact h k y hy
 ·rw[List.getElem?_append_right (by omega)] at hy
  have:k-l.length=0:=by
   have:=(List.getElem?_eq_some_iff.1 hy).1
   simp at this;omega
  rw[this] at hy
  simp at hy
  subst hy
  rw[show k=l.length by omega];exact hx
end Go.RS
namespace Go.P
open RowKit VB VS SC CK Go.ST MK RS
theorem Cg1(w0 w:World)(B g:Nat)(v:Value)(zl:List Int)(n:Int)(hs:Go.KV.Src w0 w B g v zl)(hB:B=g)(hn:1<=n)(Ab:n<=4611686018427387904):
   Calls Tryz.prog 43 #[.pointer (some ⟨g,0,none⟩),.int .i64 n] w (SnP w g v zl n):=by
 subst hB
 have h:=Ac1 w w [] B B v zl n hs.again hn Ab
 change Calls _ _ _ w _ at h
 refine h.mono ?_
 rintro e w2 ⟨r,wy,rfl,⟨ra,rb⟩,Aa,-,rfl⟩
 exact⟨r.toNat,by rw[Int.toNat_of_nonneg ra],by omega,Aa⟩
theorem Ei8(cs:List Col)(sv:Value)(key:Int)(w:World)(g:Nat)(v:Value)(zl:List Int)(hs:Go.KV.Src w w g g v zl)(hS:RdC w g sv cs)(Bm:cs.length<=12)(Ac:∀i,i<cs.length->Go.VL.okT (cs.getD i col0).ty=true):
   Calls Tryz.prog 44 #[.pointer (some ⟨g,0,none⟩),.agg #[sv,.int .i64 key]] w (KRow 49 cs w g v zl):=by
 have hK:∀(w:World)(nm:ByteArray)(ty sc:Int)(nu:Bool),Go.KV.Src w w g g v zl->1<=ty/\ty<=5->Hid (Calls Tryz.prog 91 #[.pointer (some ⟨g,0,none⟩),(.agg #[.string nm,.int .i64 ty,.int .i64 sc,.bool nu])] w (Go.KV.RetS (fun Aa n s=>Go.KV.VOK ty Aa n s/\(Aa=true->nu=true)) w g g v zl)):=fun w nm ty sc nu hs Ac=>by
  cases nu
  ·exact Hd (Cy2 w w g g v zl nm ty sc hs Ac)
  ·exact Hd (Dj5 w w g g v zl nm ty sc hs Ac)
 have Bo:=hs.lt0
 obtain⟨A,c,rfl,hc,hm,An⟩:=hS
 unfold maxLen at hm
 obtain⟨m,Ap⟩:∃m,cs.length=m:=⟨_,rfl⟩
 rw[Ap] at hc Bm An Ac⊢
 have HM:=Hd Ap
 have HC:=Hd An;have HT:=Hd Ac
 have Bb:=hs.alloc (by omega) (.cells #[.slice A m c,.int .i64 key] 24)
 have Ay:=Hd Bb
 have Bl:=Hd (show(w.alloc (.cells #[.slice A m c,.int .i64 key] 24)).heap.size=w.heap.size+1 by simp)
 clear hs An Ac Ap Bb
 go_enter Tryz.func44,Tryz.ntmps44
 go_wp2
 go_loopw[5,7,11] (fun ov _ iv wr=>∃(j:Nat)(l:List Vl),iv=.int .i64 j/\j<=m/\OwnL 49 wr (w.heap.size+1) ov l/\Hid (l.length=j)/\Hid (∀(k:Nat)(y:Vl),l[k]?=some y->Ae6 (cs.getD k col0).ty (cs.getD k col0).nu y=0)/\Hid (InV l)/\Go.KV.Src w wr g g v zl/\w.heap.size+1<=wr.heap.size) (fun _ _ iv _=>m-(intOf iv).toNat)
 case atStart=>exact⟨0,[],rfl,Nat.zero_le _,OwnL.nil _ _ _,Hd rfl,Hd (fun k y h=>by simp at h),Hd (fun x h=>by cases h),Ay.out,by rw[Bl.out];omega⟩
 case round=>
  clear Ay
  obtain⟨j,l,rfl,hj,Ab,HL,HV,HI,hS,Bt⟩:=hrel
  by_cases hlt:j<m
  case neg=>
   have Br:decide ((j:Int)<(m:Int))=false:=Q3 (by omega)
   have HF:=Hd (show Ag5 cs l=0/\InV l from⟨Av2 (by rw[HL.out,HM.out];omega) HV.out,HI.out⟩)
   clear HV HC HT
   go_wp2
   go_ret
   exact KRow.mk rfl (Ab.lower (Nat.le_succ _)) HF.out hS
  have Br:decide ((j:Int)<(m:Int))=true:=Q4 (by omega)
  have Bi:decide (j<m)=true:=Q4 hlt
  obtain⟨ad,rfl,Bf,Bc⟩:=HC.out j hlt
  obtain⟨q0,q1,q2,q3⟩:=Bc.below hS.below Bf
  have Ah:=HT.out j hlt
  have Ao:=Hd (fun(x:Vl)(h:Ae6 (cs.getD j col0).ty (cs.getD j col0).nu x=0)=>Eo9 (x:=x) HV.out (by rw[HL.out];exact h))
  obtain⟨C,hC⟩:∃C,cs.getD j col0=C:=⟨_,rfl⟩
  rw[hC] at q0 q1 q2 q3 Ah Ao
  obtain⟨nm,ty,sc,nu⟩:=C
  simp only at q0 q1 q2 q3 Ah Ao
  have Af:1<=ty/\ty<=5:=of_decide_eq_true Ah
  have Aq:=hS.alloc (by have:=hS.lt;omega) (.cells #[.string nm,.int .i64 ty,.int .i64 sc,.bool nu] 62)
  have Ax:=Hd (Ab.alloc (.cells #[.string nm,.int .i64 ty,.int .i64 sc,.bool nu] 62))
  have Ad:=Hd (hK _ nm ty sc nu Aq.again Af).out
  have Ar:=Hd Aq
  have Ae:w.heap.size+1<=(wr.alloc (.cells #[.string nm,.int .i64 ty,.int .i64 sc,.bool nu] 62)).heap.size:=by simp;omega
  have Al:=Hd Ae
  clear hK Aq Bc Ah Af hC Ab hS Ae HV
  go_wp2_with fail
  (with_reducible refine Ad.out.mono ?_);rintro e w5 ⟨Aa,n,s,rfl,⟨⟨Bd,Az,-⟩,Aw⟩,Ai⟩
  have Bk:=Hd (HI.out.snoc (x:=⟨Aa,n,s⟩) (bounds_i64 Az))
  have Ba:=Be3 Ai Ax.out (show g<w.heap.size+1 by omega)
  have Ak:=Hd (Bd5 Ar.out Ai)
  have Bh:=Ai.gb.size
  have Bj:=Hd (Ao.out ⟨Aa,n,s⟩ (Ff6 Bd Aw))
  have Bs:=Hd (RdK.lit (L:=valL) w5 [⟨Aa,n,s⟩] 1 49 (Q1 1) (by decide))
  have HO:=Hd (Bo1 (OwnL.alloc (show OwnL 49 w5 (w.heap.size+1) _ l from Ba) (.cells #[.bool Aa,.int .i64 n,.string s] 49)))
  have As:=Hd (Ak.out.alloc (by have:=Ak.out.lt;omega) (.cells #[.bool Aa,.int .i64 n,.string s] 49))
  have Au:=Hd (show w.heap.size+1<=(w5.alloc (.cells #[.bool Aa,.int .i64 n,.string s] 49)).heap.size by have:=Al.out;simp;omega)
  have Be:l.length<=12:=by rw[HL.out];omega
  have Bp:=Hd (show l.length+[(⟨Aa,n,s⟩:Vl)].length<=maxLen by unfold maxLen;simp only[Q6,Q8];omega)
  have Bn:=Hd (show(l.length+[(⟨Aa,n,s⟩:Vl)].length)*32<=140737488355328 by simp only[Q6,Q8];omega)
  clear Ba Ai Ar Ax Ad Bd Aw Az HI Be Ak
  go_wp2_with(at_builtin;refine Af5 (L:=valL) rfl _ _ 63 rfl (w.heap.size+1) 49 32 Tryz.underlying63 Tryz.infVal _ l rfl HO.out _ _ [⟨Aa,n,s⟩] rfl Bs.out Bp.out Bn.out Au.out ?_)
  intro v' w' Ag Aj _
  have Bg:=Hd (As.out.of Aj (by omega) (by omega))
  have Bq:=Hd (Nat.le_trans Au.out Aj.size)
  clear Aj As
  go_wp2_with fail
  go_roundw
  all_goals first
   | exact⟨j+1,l++[⟨Aa,n,s⟩],by go_num,hlt,Do7 Ag,Hd (by rw[Q5,HL.out];rfl),Bj,Bk,Bg.out,Bq.out⟩
   | (simp[intOf];omega)
end Go.P
namespace Go.RS
open RowKit VB VS SC CK Go.ST MK
def Eq8(cs:List Col)(key:Int)(N:Nat)(w:World):Ending->World->Prop:=fun en w'=>∃u l,en=.returned u/\RdR w' w'.heap.size u (Ap8 cs key l)/\l.length<=N/\((∀r∈l,Ag3 cs r=true)/\InR l)/\(l.Pairwise fun a b=>a.seq<b.seq)/\Below w.heap.size w w'
theorem Eb8{α:Type}{p:α->Prop}{l:List α}{x:α}(h:∀y∈l,p y)(hx:p x):∀y∈l++[x],p y:=by
 intro y hy
 rcases List.mem_append.1 hy with hy | hy
 ·exact h y hy
 ·rw[List.mem_singleton.1 hy];exact hx
end Go.RS
namespace Go.P
open RowKit VB VS SC CK Go.ST MK RS
theorem Bu0 (W:World) (cs:List Col) (sv:Value) (key:Int) (v:Value) (zl:List Int) (N:Nat) (hN:N<=100) (hS:RdC W W.heap.size sv cs) (Bz:cs.length<=12) (Bj:∀i,i<cs.length->Go.VL.okT (cs.getD i col0).ty=true)
   (hr:RdI .i64 W W.heap.size v zl) (hw:∀z∈zl,(Lit.int .i64 z).wf=true):
   Calls Tryz.prog 16 #[.agg #[sv,.int .i64 key],v,.int .i64 (N:Int)] W (Eq8 cs key N W):=by
 obtain⟨A,c,rfl,hc,hm,Bf⟩:=hr
 have hr:RdI .i64 W W.heap.size (.slice A zl.length c) zl:=⟨A,c,rfl,hc,hm,Bf⟩
 have Bb:=Hd ((Q2 W.heap.size W).alloc (Q1 _) (.cells #[sv,.int .i64 key] 24))
 have Ar:=Hd (show(W.alloc (.cells #[sv,.int .i64 key] 24)).heap.size=W.heap.size+1 from by simp)
 have HV:=Hd (Var2.new W sv (.int .i64 key) 24)
 have HF:=fun w=>Hd (Dl1 A zl.length c w)
 have Cd:=Hd (hr.step Bb.out)
 have Af:=Go.KV.Src.made Cd.out hw 134
 rw[Ar.out] at Af
 have Bg:=HV.out.step ((Q2 _ _).alloc (Q1 _) (.cells #[.slice A zl.length c,.int .i64 0] 134))
 have Bc:=Bb.out.alloc (by rw[Ar.out];omega) (.cells #[.slice A zl.length c,.int .i64 0] 134)
 have Bd:=Hd hS;have HTY:=Hd Bj
 clear hr Bf hc hm hw hS Bj
 go_enter Tryz.func16,Tryz.ntmps16
 go_wp2_with fail
 (with_reducible refine(HF _).out.mono ?_);rintro e w1 ⟨rfl,rfl⟩
 rw[Ar.out]
 have Ci:((W.alloc (.cells #[sv,.int .i64 key] 24)).alloc (.cells #[.slice A zl.length c,.int .i64 0] 134)).heap.size<=W.heap.size+1+1:=by simp
 generalize ((W.alloc (.cells #[sv,.int .i64 key] 24)).alloc (.cells #[.slice A zl.length c,.int .i64 0] 134))=X at *
 have Ax:=Hd (Cg1 X X _ (W.heap.size+1) (.slice A zl.length c) zl 5 Af rfl (by omega) (by omega))
 go_wp2_with fail
 (with_reducible refine Ax.out.mono ?_)
 rintro e w2 ⟨q0,rfl,Bn,Aj⟩
 have Ba:=Hd (Cg1 X w2 _ (W.heap.size+1) (.slice A zl.length c) zl ((N:Int)+1) Aj rfl (by omega) (by omega))
 go_wp2_with fail
 (with_reducible refine Ba.out.mono ?_)
 rintro e w3 ⟨r,rfl,Ca,Be⟩
 have Bh:=Bd5 Aj Be
 have Bv:=Hd Bg;have HBX:=Hd Bc
 have Cl:=Af.lt0
 clear Bg Bc Af Ax Ba Aj Be
 go_wp2_with fail
 go_loopw[8,9,10] (fun ov qv kv wr=>∃(k q:Nat)(ps:List Rs)(ls:List Rc),kv=.int .i64 k/\qv=.int .i64 q/\ls.length+k<=N/\q<=4+3*ls.length/\OwnK recL 67 wr (W.heap.size+1+1) ov ps/\Hid (DeepO 49 wr (W.heap.size+1+1) ps ls)/\Hid (∀r∈ls,(Ag3 cs r=true/\InV r.row)/\r.seq<q)/\Hid (ls.Pairwise fun a b=>a.seq<b.seq)/\Go.KV.Src X wr (W.heap.size+1) (W.heap.size+1) (.slice A zl.length c) zl) (fun _ _ kv _=>(intOf kv).toNat)
 case atStart=>exact⟨r,q0,[],[],rfl,rfl,by simp;omega,by simp;omega,OwnK.nil _ _ _ _,Hd (DeepO.nil _ _ _),Hd (fun _ h=>by simp at h),Hd List.Pairwise.nil,Bh⟩
 case round=>
  clear Bh Ca Bn
  obtain⟨k,q,ps,ls,rfl,rfl,Ch,Ck,Aa,HD,HC,HP,hS⟩:=hrel
  have An:=hS.below
  have Ah:Below W.heap.size W wr:=HBX.out.trans (An.mono (Nat.le_succ _))
  obtain⟨v0,v1,-,-⟩:=Bv.out.below An (Nat.lt_succ_self _)
  by_cases hk:0<k
  case neg=>
   have Cc:decide ((0:Int)<(k:Int))=false:=Q3 (by omega)
   have Bp:=Hd (Dm1 cs sv key _ ls wr (Bd.out.step Ah) ⟨ps,OwnK.read Aa,HD.out.read⟩ (by omega))
   clear Aa HD
   go_wp2_with fail
   (with_reducible refine Bp.out.mono ?_);rintro e w5 ⟨u,qs,rfl,ho,hd,Bu⟩
   go_wp2_with fail
   go_ret
   exact⟨_,ls,rfl,Go.RS.OwnK.rdR ho hd,by omega,⟨fun r hr=>(HC.out r hr).1.1,fun r hr=>(HC.out r hr).1.2⟩,HP.out,Aa0 Ah Bu⟩
  have Cc:decide ((0:Int)<(k:Int))=true:=Q4 (by omega)
  have Bs:decide (0<k)=true:=Q4 hk
  have Bo:W.heap.size+1+1<=wr.heap.size:=by have:=hS.lt;omega
  obtain⟨Am,nm,cm,rfl⟩:=Bi2 Aa
  have Ad:=Hd (Ei8 cs sv key wr (W.heap.size+1) _ zl hS.again ((Bd.out.below Ah).more (Nat.le_succ _)) Bz HTY.out)
  have HS:=Hd hS;have HOW:=Hd Aa
  have Cj:=hS.gb.size
  clear Aa hS An Ah
  go_wp2_with fail
  (with_reducible refine Ad.out.mono ?_);rintro e w5 ⟨u,l,rfl,ho,Ao,Ac⟩
  obtain⟨sA,sn,sc,rfl⟩:=Bi1 ho
  have Cm:=Ac.gb.size
  have Al:=(Q2 w5.heap.size w5).alloc (Q1 _) (.cells #[.int .i64 (q:Int),.slice sA sn sc] 67)
  have Ak:=Hd (OwnK.alloc (show OwnK recL 67 w5 (W.heap.size+1+1) _ ps from Be3 Ac HOW.out (Nat.lt_succ_self _)) (.cells #[.int .i64 (q:Int),.slice sA sn sc] 67))
  have Az:=Hd (((DeepO.src Ac HD.out (Nat.lt_succ_self _)).snoc (p:=⟨(q:Int),⟨sA,sn,sc⟩⟩) (r:=⟨(q:Int),l⟩) rfl (ho.lower Bo)).below Al)
  have Bx:=Hd (RdK.lit (L:=recL) w5 [(⟨(q:Int),⟨sA,sn,sc⟩⟩:Rs)] 1 67 (Q1 1) (by decide))
  have Bq:=Hd (show W.heap.size+1+1<=(w5.alloc (.cells #[.int .i64 (q:Int),.slice sA sn sc] 67)).heap.size by have:=Al.size;omega)
  have Aw:=Hd ((Bd5 HS.out Ac).alloc (by omega) (.cells #[.int .i64 (q:Int),.slice sA sn sc] 67))
  have Ae:¬1099511627776<(q:Int):=by omega
  have Ai:=Hd (Eb8 (p:=fun r=>(Ag3 cs r=true/\InV r.row)/\r.seq<((q+1:Nat):Int)) (fun y hy=>⟨(HC.out y hy).1,by have:=(HC.out y hy).2;omega⟩) (x:=⟨(q:Int),l⟩) ⟨⟨Bt3 (r:=⟨(q:Int),l⟩) (show ¬(q:Int)<0 by omega) Ae Ao.1,Ao.2⟩,show(q:Int)<((q+1:Nat):Int) by omega⟩)
  have Ce:=Hd (show(ls++[(⟨(q:Int),l⟩:Rc)]).Pairwise (fun a b=>a.seq<b.seq) from List.pairwise_append.2 ⟨HP.out,List.pairwise_singleton _ _,fun a ha b hb=>by rw[List.mem_singleton.1 hb];exact(HC.out a ha).2⟩)
  have Bt:ps.length<=100:=by have:=HD.out.1;omega
  have As:=Hd (show ps.length+[(⟨(q:Int),⟨sA,sn,sc⟩⟩:Rs)].length<=maxLen by unfold maxLen;simp only[Q6,Q8];omega)
  have Ap:=Hd (show(ps.length+[(⟨(q:Int),⟨sA,sn,sc⟩⟩:Rs)].length)*32<=140737488355328 by simp only[Q6,Q8];omega)
  clear Ac Al ho Ao Bt Ad HOW HS HD HC HP v0 v1 Ae
  go_wp2_with(at_builtin;refine Af5 (L:=recL) rfl _ _ 25 rfl (W.heap.size+1+1) 67 32 Tryz.underlying25 Tryz.infRec _ ps rfl Ak.out _ _ [(⟨(q:Int),⟨sA,sn,sc⟩⟩:Rs)] rfl Bx.out As.out Ap.out Bq.out ?_)
  intro v' w' Ab Au Bk
  have Bl:=Hd (Az.out.keep Ak.out (by decide) Bk)
  have Aq:=Aw.out.of Au (Nat.lt_succ_self _) (by omega)
  have Ay:=Hd Aq
  have Bm:=Hd (Cg1 X w' _ (W.heap.size+1) (.slice A zl.length c) zl 3 Aq rfl (by omega) (by omega))
  clear Au Bk Az Ak Aw Aq
  obtain⟨Av,nv,cv,rfl⟩:=Bi2 Ab
  have Bi:=Hd Ab
  clear Ab
  go_wp2_with fail
  (with_reducible refine Bm.out.mono ?_);rintro e w7 ⟨d,rfl,By,Ag⟩
  have Cb:=Hd (show OwnK recL 67 w7 (W.heap.size+1+1) _ (ps++[(⟨(q:Int),⟨sA,sn,sc⟩⟩:Rs)]) from Be3 Ag Bi.out (Nat.lt_succ_self _))
  have Cf:=Hd (DeepO.src Ag Bl.out (Nat.lt_succ_self _))
  have Bw:=Hd (Bd5 Ay.out Ag)
  have Br:=Hd (show ∀r∈ls++[(⟨(q:Int),l⟩:Rc)],(Ag3 cs r=true/\InV r.row)/\r.seq<((q+1+d:Nat):Int) from fun r hr=>⟨(Ai.out r hr).1,by have:=(Ai.out r hr).2;omega⟩)
  have Cg:d<=2:=by omega
  clear Ag Bi Bl Ay Ai Bm By
  go_wp2_with fail
  go_roundw
  all_goals first
   | exact⟨k-1,q+1+d,_,_,by go_num,by go_num,by rw[Q5];simp;omega,by rw[Q5];simp;omega,Cb.out,Cf,Br,Ce,Bw.out⟩
   | (simp[intOf];omega)
end Go.P

namespace Go.SC
open RowKit VB VL
theorem Et6(n:Nat)(h:n<4):Aj8 (str [UInt8.ofNat (97+n)])=true:=by
 match n,h with
 | 0,_=>decide +kernel
 | 1,_=>decide +kernel
 | 2,_=>decide +kernel
 | 3,_=>decide +kernel
theorem Bj0{n m:Nat}(hn:n<4)(hm:m<4)(h:str [UInt8.ofNat (97+n)]=str [UInt8.ofNat (97+m)]):n=m:=by
 have h1:=Cf8 h
 simp only[List.cons.injEq,and_true] at h1
 have h2:=congrArg UInt8.toNat h1
 rw[UInt8.toNat_ofNat',UInt8.toNat_ofNat'] at h2
 omega
theorem kokc{cs:List Col}{key:Int}(h:KOK cs key):Ad9 cs key=0:=by
 obtain⟨h1,h4,hk,k0,k1⟩:=h
 rw[Bf3 (by omega) (by omega),if_neg (by omega)]
 intro i hi
 obtain⟨a,b,c,d,e⟩:=hk i hi
 have hn:Aj8 (cs.getD i col0).nm=true:=by rw[a];exact Et6 _ (by omega)
 rw[Al8 hn ?_ b,if_neg (by omega)]
 rintro⟨j,hj,he⟩
 obtain⟨a',_⟩:=hk j (by omega)
 rw[a,a'] at he
 have:=Bj0 (by omega) (by omega) he
 omega
end Go.SC
namespace Go.RS
open RowKit VB VS SC CK Go.ST MK
def Bw9:Col:=⟨⟨#[97]⟩,1,0,false⟩
theorem Eo5:Ad9 [Bw9] 0=0:=by
 refine kokc ⟨by decide,by decide,fun i hi=>?_,by decide,by decide⟩
 obtain rfl:i=0:=by simp at hi;omega
 exact⟨rfl,rfl,by decide,by decide,fun _=>rfl⟩
end Go.RS
namespace Go.P
open RowKit VB VS SC CK Go.ST MK RS
end Go.P
namespace Go.RS
open RowKit VB VS SC CK Go.ST MK
theorem Bo7{cs:List Col}{key:Int}(h:KOK cs key):cs.length<=12:=by have:=h.2.1;omega
theorem Ds0{cs:List Col}{key:Int}(h:KOK cs key):∀i,i<cs.length->Go.VL.okT (cs.getD i col0).ty=true:=fun i hi=>(h.2.2.1 i hi).2.1
theorem Dr9{cs:List Col}{key:Int}{l:List Rc}(h:KOK cs key)(hl:∀r∈l,Ag3 cs r=true):Bg2 cs key l=true:=Br6 (kokc h) fun _ r hr=>hl r (List.mem_of_getElem? hr)
theorem Dk4{cs:List Col}{key:Int}{l:List Rc}:(Ap8 cs key l).length<=l.length:=by
 unfold Ap8
 split
 ·rw[Co2];exact Q1 _
 ·simp
theorem By3{cs:List Col}{key:Int}{l:List Rc}{r:Rc}(h:r∈Ap8 cs key l):r∈l:=by
 unfold Ap8 at h
 split at h
 ·exact Co1 h
 ·simp at h
theorem Eo7{ty:Int}{a b:Vl}{s t:Int}(h:Bm0 ty a s b t=0):s=t:=by
 unfold Bm0 at h
 by_cases h0:Go.VL.cmp ty a.nu a.n a.s b.nu b.n b.s≠0
 ·rw[if_pos h0] at h;exact absurd h h0
 ·rw[if_neg h0] at h
  unfold Go.VL.cmpI at h
  by_cases h1:s<t
  ·rw[if_pos h1] at h;omega
  ·rw[if_neg h1] at h
   by_cases h2:t<s
   ·rw[if_pos h2] at h;omega
   ·omega
theorem Cg5{cs:List Col}{key:Int}{l:List Rc}(h:KOK cs key)(hl:∀r∈l,Ag3 cs r=true)(hp:l.Pairwise fun a b=>a.seq<b.seq):Ak3 cs key (Ap8 cs key l)=true/\Ap8 cs key (Ap8 cs key l)=Ap8 cs key l:=by
 have hv:=Dr9 h hl
 have Ad:Bg2 cs key (Ap8 cs key l)=true:=Dr9 h fun r hr=>hl r (By3 hr)
 rw[Aw9 Ad,Bg7 Ad,Bg7 hv]
 generalize Be6 cs key=ty
 generalize key.toNat=k
 have hs:=srtL_spec (Ag6 ty k) l
 have Ac:(Bc9 ty k l).Pairwise (fun a b=>Am1 ty k a b=true):=hs.srt
 refine⟨Bw7 fun i a b ha hb=>?_,(Dk1 (IsS.self Ac)).symm⟩
 have hi:i+1<(Bc9 ty k l).length:=(List.getElem?_eq_some_iff.1 hb).1
 have Ab:Am1 ty k a b=true:=by
  have:=List.pairwise_iff_getElem.1 Ac i (i+1) (by omega) hi (by omega)
  rw[Q7 (by omega)] at ha
  rw[Q7 hi] at hb
  cases ha;cases hb;exact this
 cases hba:Am1 ty k b a with
 | false=>exact recLe_neg.1 hba
 | true=>
   exfalso
   have h1:Ac8 ty k a b<=0:=of_decide_eq_true Ab
   have h2:Ac8 ty k b a<=0:=of_decide_eq_true hba
   have h3:=Bf1 ty (Ac9 k a) a.seq (Ac9 k b) b.seq
   have h4:Bm0 ty (Ac9 k a) a.seq (Ac9 k b) b.seq=0:=by unfold Ac8 at h1 h2;omega
   have Ag:=Eo7 h4
   have e1:eqv (Am1 ty k) a a=true:=Ao9 (Ag6 ty k) a
   have e2:eqv (Am1 ty k) a b=true:=by unfold eqv;rw[Ab,hba];rfl
   have Aa:[a,b].Sublist (Bc9 ty k l):=by
    have hd:(Bc9 ty k l).drop i=a::b::(Bc9 ty k l).drop (i+2):=by
     have Ae:i<(Bc9 ty k l).length:=by omega
     rw[Q7 Ae] at ha
     rw[Q7 hi] at hb
     have ea:=Option.some.inj ha
     have eb:=Option.some.inj hb
     rw[List.drop_eq_getElem_cons Ae,List.drop_eq_getElem_cons hi,ea,eb]
    have:[a,b].Sublist ((Bc9 ty k l).drop i):=by
     rw[hd]
     exact((List.nil_sublist _).cons_cons b).cons_cons a
    exact this.trans (List.drop_sublist i _)
   have hf:=Aa.filter (eqv (Am1 ty k) a)
   have Af:(Bc9 ty k l).filter (eqv (Am1 ty k) a)=l.filter (eqv (Am1 ty k) a):=hs.same a
   rw[Af,List.filter_cons,if_pos e1,List.filter_cons,if_pos e2] at hf
   have h5:=hp.sublist (hf.trans List.filter_sublist)
   have:=(List.pairwise_cons.1 h5).1 b (List.mem_cons_self ..)
   omega
end Go.RS
