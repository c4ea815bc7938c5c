/- Texts of one part, joined. -/
import Derived.Test.YtnmlajmaffiigaaGreatDoorGb
import Derived.Test.YtnmlajmaffiigaaGreatDoorGw
import Derived.Test.YtnmlajmaffiigaaGreatDoorBt2
import Derived.Test.YtnmlajmaffiigaaGreatDoorGa
import Derived.Test.YtnmlajmaffiigaaGreatDoorBt6
set_option linter.constructorNameAsVariable false
set_option maxRecDepth 100000
set_option maxHeartbeats 2000000
open Go Go.Proofs Go.Proofs.YtnmlajmaffiigaaGreatDoor Go.P
namespace Go.RS
open RowKit VB VS VL MK Go.ST
def An1(k:Int)(r:Rc):Vl:=if k<0\/(r.row.length:Int)<=k then vl0 else Ac9 k.toNat r
def At6(k:Int)(r:Rc):Int:=if k<0\/(r.row.length:Int)<=k then 0 else r.seq
end Go.RS
namespace Go.P
open RowKit VB VS VL MK Go.ST RS
theorem Dn9(ty:Int)(b:Bool)(n:Int)(s:ByteArray)(q:Int)(b':Bool)(n':Int)(s':ByteArray)(q':Int)(w:World):
   Calls Tryz.prog 70 #[.int .i64 ty,.agg #[.bool b,.int .i64 n,.string s,.int .i64 q],.agg #[.bool b',.int .i64 n',.string s',.int .i64 q']] w (RetB (.int .i64 (Bm0 ty ⟨b,n,s⟩ q ⟨b',n',s'⟩ q')) w):=by
 have HC:=fun w=>Hd (Cp5 ty b n s b' n' s' w)
 have hV:=Hd (show ∀w',Below ((w.alloc (.cells #[.bool b,.int .i64 n,.string s,.int .i64 q] 51)).alloc (.cells #[.bool b',.int .i64 n',.string s',.int .i64 q'] 51)).heap.size ((w.alloc (.cells #[.bool b,.int .i64 n,.string s,.int .i64 q] 51)).alloc (.cells #[.bool b',.int .i64 n',.string s',.int .i64 q'] 51)) w'->Var4 w' w.heap.size (.bool b) (.int .i64 n) (.string s) (.int .i64 q)/\Var4 w' (w.heap.size+1) (.bool b') (.int .i64 n') (.string s') (.int .i64 q')/\Below w.heap.size w w' from fun w' h=>by
  refine⟨((Var4.new w (.bool b) (.int .i64 n) (.string s) (.int .i64 q) 51).step ((Q2 _ _).alloc (Q1 _) _)).step h,?_,?_⟩
  ·have:=Var4.new (w.alloc (.cells #[.bool b,.int .i64 n,.string s,.int .i64 q] 51)) (.bool b') (.int .i64 n') (.string s') (.int .i64 q') 51
   rw[show(w.alloc (.cells #[.bool b,.int .i64 n,.string s,.int .i64 q] 51)).heap.size=w.heap.size+1 by simp] at this
   exact this.step h
  ·exact(((Q2 _ _).alloc (Q1 _) _).alloc (by simp) _).trans (h.mono (by simp;omega)))
 have hu:Bm0 ty ⟨b,n,s⟩ q ⟨b',n',s'⟩ q'=if cmp ty b n s b' n' s'≠0 then cmp ty b n s b' n' s' else cmpI q q':=rfl
 rw[hu];clear hu
 generalize cmp ty b n s b' n' s'=c at *
 go_enter Tryz.func70,Tryz.ntmps70
 by_cases h0:c=0
 ·subst h0
  have h1:(if(0:Int)≠0 then(0:Int) else cmpI q q')=cmpI q q':=rfl
  rw[h1];clear h1
  have h2:(q<q'/\cmpI q q' = -1)\/(q=q'/\cmpI q q'=0)\/(¬q<q'/\¬q=q'/\cmpI q q'=1):=by
   unfold cmpI
   by_cases h:q<q'
   ·exact .inl ⟨h,by simp[h]⟩
   ·by_cases h':q=q'
    ·subst h';simp
    ·exact .inr (.inr ⟨h,h',by rw[if_neg h,if_pos (by omega)]⟩)
  rcases h2 with⟨e1,e2⟩ | ⟨e1,e2⟩ | ⟨e0,e1,e2⟩
  ·rw[e2]
   clear e2
   have t1:decide (q<q')=true:=Q4 e1
   clear e1
   go_wp2_with(first | ((with_reducible refine(HC _).out.mono ?_);rintro e w1 ⟨rfl,hb⟩;obtain⟨⟨a0,a1,a2,a3⟩,⟨d0,d1,d2,d3⟩,hbel⟩:=hV.out _ hb;clear hb) | fail)
   go_ret
   exact RetB.mk rfl hbel
  ·subst e1
   rw[e2]
   clear e2
   have t1:decide (q<q)=false:=by simp
   have t2:(q==q)=true:=by simp
   go_wp2_with(first | ((with_reducible refine(HC _).out.mono ?_);rintro e w1 ⟨rfl,hb⟩;obtain⟨⟨a0,a1,a2,a3⟩,⟨d0,d1,d2,d3⟩,hbel⟩:=hV.out _ hb;clear hb) | fail)
   go_ret
   exact RetB.mk rfl hbel
  ·rw[e2]
   clear e2
   have t1:decide (q<q')=false:=Q3 e0
   have t2:(q==q')=false:=by simpa using e1
   clear e0 e1
   go_wp2_with(first | ((with_reducible refine(HC _).out.mono ?_);rintro e w1 ⟨rfl,hb⟩;obtain⟨⟨a0,a1,a2,a3⟩,⟨d0,d1,d2,d3⟩,hbel⟩:=hV.out _ hb;clear hb) | fail)
   go_ret
   exact RetB.mk rfl hbel
 ·go_wp2_with(first | ((with_reducible refine(HC _).out.mono ?_);rintro e w1 ⟨rfl,hb⟩;obtain⟨⟨a0,a1,a2,a3⟩,⟨d0,d1,d2,d3⟩,hbel⟩:=hV.out _ hb;clear hb) | fail)
  go_ret
  exact RetB.mk rfl hbel
theorem Ey1(sA:Option Addr)(sn sc:Nat)(key:Int)(r:Rc)(rA:Option Addr)(rc:Nat)(w:World)(hx:RdL w w.heap.size (.slice rA r.row.length rc) r.row):
   Calls Tryz.prog 30 #[.agg #[.slice sA sn sc,.int .i64 key],.agg #[.int .i64 r.seq,.slice rA r.row.length rc]] w (RetB (.agg #[.bool (An1 key r).nu,.int .i64 (An1 key r).n,.string (An1 key r).s,.int .i64 (At6 key r)]) w):=by
 obtain⟨q,row⟩:=r
 simp only at hx⊢
 have Aa:∀u v z:Obj,Below w.heap.size w (((w.alloc u).alloc v).alloc z):=fun u v z=>(((Q2 _ _).alloc (Q1 _) u).alloc (by simp) v).alloc (by simp;omega) z
 by_cases hneg:key<0
 ·have e1:An1 key ⟨q,row⟩=vl0:=by unfold An1;rw[if_pos (.inl hneg)]
  have e2:At6 key ⟨q,row⟩=0:=by unfold At6;rw[if_pos (.inl hneg)]
  rw[e1,e2]
  clear e1 e2 hx
  have t1:decide (key<0)=true:=Q4 hneg
  go_enter Tryz.func30,Tryz.ntmps30
  go_wp2_with fail
  refine bodyPost_ret (v:=.agg #[.bool false,.int .i64 0,.string ⟨#[]⟩,.int .i64 0]) (by simp[results,Tryz.results30,go_sem]) rfl ?_
  exact RetB.mk rfl (Aa _ _ _)
 ·obtain⟨k,rfl⟩:∃k:Nat,key=k:=⟨key.toNat,by omega⟩
  have t1:decide ((k:Int)<0)=false:=Q3 hneg
  clear hneg
  by_cases hlt:k<row.length
  ·have hl:row[k]?=some row[k]:=Q7 hlt
   have e1:An1 k ⟨q,row⟩=row[k]:=by
    unfold An1;rw[if_neg (by simp;omega)];unfold Ac9;simp[hlt]
   have e2:At6 k ⟨q,row⟩=q:=by unfold At6;rw[if_neg (by simp;omega)]
   rw[e1,e2]
   clear e1 e2
   obtain⟨ad,rfl,Ab,q0,q1,q2⟩:=(hx.below (Aa (.cells #[.slice sA sn sc,.int .i64 k] 24) (.cells #[.int .i64 q,.slice rA row.length rc] 67) (.cells #[.bool false,.int .i64 0,.string ⟨#[]⟩,.int .i64 0] 51))).at hl
   clear hl hx
   generalize row[k]=V at q0 q1 q2
   obtain⟨vb,vn,vs⟩:=V
   simp only at q0 q1 q2
   go_enter Tryz.func30,Tryz.ntmps30
   have t2:decide ((row.length:Int)<=k)=false:=Q3 (by omega)
   go_wp2_with fail
   go_region
   go_wp2_with fail
   refine bodyPost_ret (v:=.agg #[.bool vb,.int .i64 vn,.string vs,.int .i64 q]) (by simp[results,Tryz.results30,go_sem]) rfl ?_
   exact RetB.mk rfl (Aa _ _ _).drew
  ·have e1:An1 k ⟨q,row⟩=vl0:=by unfold An1;rw[if_pos (.inr (by simp;omega))]
   have e2:At6 k ⟨q,row⟩=0:=by unfold At6;rw[if_pos (.inr (by simp;omega))]
   rw[e1,e2]
   clear e1 e2 hx
   go_enter Tryz.func30,Tryz.ntmps30
   have t2:decide ((row.length:Int)<=k)=true:=Q4 (by omega)
   go_wp2_with fail
   refine bodyPost_ret (v:=.agg #[.bool false,.int .i64 0,.string ⟨#[]⟩,.int .i64 0]) (by simp[results,Tryz.results30,go_sem]) rfl ?_
   exact RetB.mk rfl (Aa _ _ _)
end Go.P
namespace Go.P
open RowKit VB VS VL SC CK Go.ST MK RS
theorem Bl2(sA:Option Addr)(sn sc:Nat)(key:Int)(r:Rc)(rA:Option Addr)(rc:Nat)(w:World)(hx:RdL w w.heap.size (.slice rA r.row.length rc) r.row):
   Calls Tryz.prog 87 #[.agg #[.slice sA sn sc,.int .i64 key],.agg #[.int .i64 r.seq,.slice rA r.row.length rc]] w (RetB (.agg #[.bool (An1 key r).nu,.int .i64 (An1 key r).n,.string (An1 key r).s,.int .i64 (At6 key r)]) w):=by
 obtain⟨q,row⟩:=r
 simp only at hx⊢
 have Aa:∀u v z:Obj,Below w.heap.size w (((w.alloc u).alloc v).alloc z):=fun u v z=>(((Q2 _ _).alloc (Q1 _) u).alloc (by simp) v).alloc (by simp;omega) z
 by_cases hneg:key<0
 ·have e1:An1 key ⟨q,row⟩=vl0:=by unfold An1;rw[if_pos (.inl hneg)]
  have e2:At6 key ⟨q,row⟩=0:=by unfold At6;rw[if_pos (.inl hneg)]
  rw[e1,e2]
  clear e1 e2 hx
  have t1:decide (key<0)=true:=Q4 hneg
  go_enter Tryz.func87,Tryz.ntmps87
  go_wp2_with fail
  refine bodyPost_ret (v:=.agg #[.bool false,.int .i64 0,.string ⟨#[]⟩,.int .i64 0]) (by simp[results,Tryz.results87,go_sem]) rfl ?_
  exact RetB.mk rfl (Aa _ _ _)
 ·obtain⟨k,rfl⟩:∃k:Nat,key=k:=⟨key.toNat,by omega⟩
  have t1:decide ((k:Int)<0)=false:=Q3 hneg
  clear hneg
  by_cases hlt:k<row.length
  ·have hl:row[k]?=some row[k]:=Q7 hlt
   have e1:An1 k ⟨q,row⟩=row[k]:=by
    unfold An1;rw[if_neg (by simp;omega)];unfold Ac9;simp[hlt]
   have e2:At6 k ⟨q,row⟩=q:=by unfold At6;rw[if_neg (by simp;omega)]
   rw[e1,e2]
   clear e1 e2
   obtain⟨ad,rfl,Ab,q0,q1,q2⟩:=(hx.below (Aa (.cells #[.slice sA sn sc,.int .i64 k] 24) (.cells #[.int .i64 q,.slice rA row.length rc] 67) (.cells #[.bool false,.int .i64 0,.string ⟨#[]⟩,.int .i64 0] 51))).at hl
   clear hl hx
   generalize row[k]=V at q0 q1 q2
   obtain⟨vb,vn,vs⟩:=V
   simp only at q0 q1 q2
   go_enter Tryz.func87,Tryz.ntmps87
   have t2:decide ((row.length:Int)<=k)=false:=Q3 (by omega)
   go_wp2_with fail
   go_region
   go_wp2_with fail
   refine bodyPost_ret (v:=.agg #[.bool vb,.int .i64 vn,.string vs,.int .i64 q]) (by simp[results,Tryz.results87,go_sem]) rfl ?_
   exact RetB.mk rfl (Aa _ _ _).drew
  ·have e1:An1 k ⟨q,row⟩=vl0:=by unfold An1;rw[if_pos (.inr (by simp;omega))]
   have e2:At6 k ⟨q,row⟩=0:=by unfold At6;rw[if_pos (.inr (by simp;omega))]
   rw[e1,e2]
   clear e1 e2 hx
   go_enter Tryz.func87,Tryz.ntmps87
   have t2:decide ((row.length:Int)<=k)=true:=Q4 (by omega)
   go_wp2_with fail
   refine bodyPost_ret (v:=.agg #[.bool false,.int .i64 0,.string ⟨#[]⟩,.int .i64 0]) (by simp[results,Tryz.results87,go_sem]) rfl ?_
   exact RetB.mk rfl (Aa _ _ _)
theorem Cw9(ty:Int)(b:Bool)(n:Int)(s:ByteArray)(q:Int)(b':Bool)(n':Int)(s':ByteArray)(q':Int)(w:World):
   Calls Tryz.prog 115 #[.int .i64 ty,.agg #[.bool b,.int .i64 n,.string s,.int .i64 q],.agg #[.bool b',.int .i64 n',.string s',.int .i64 q']] w (RetB (.int .i64 (Bm0 ty ⟨b,n,s⟩ q ⟨b',n',s'⟩ q')) w):=by
 have HC:=fun w=>Hd (Bw0 ty b n s b' n' s' w)
 have hV:=Hd (show ∀w',Below ((w.alloc (.cells #[.bool b,.int .i64 n,.string s,.int .i64 q] 51)).alloc (.cells #[.bool b',.int .i64 n',.string s',.int .i64 q'] 51)).heap.size ((w.alloc (.cells #[.bool b,.int .i64 n,.string s,.int .i64 q] 51)).alloc (.cells #[.bool b',.int .i64 n',.string s',.int .i64 q'] 51)) w'->Var4 w' w.heap.size (.bool b) (.int .i64 n) (.string s) (.int .i64 q)/\Var4 w' (w.heap.size+1) (.bool b') (.int .i64 n') (.string s') (.int .i64 q')/\Below w.heap.size w w' from fun w' h=>by
  refine⟨((Var4.new w (.bool b) (.int .i64 n) (.string s) (.int .i64 q) 51).step ((Q2 _ _).alloc (Q1 _) _)).step h,?_,?_⟩
  ·have:=Var4.new (w.alloc (.cells #[.bool b,.int .i64 n,.string s,.int .i64 q] 51)) (.bool b') (.int .i64 n') (.string s') (.int .i64 q') 51
   rw[show(w.alloc (.cells #[.bool b,.int .i64 n,.string s,.int .i64 q] 51)).heap.size=w.heap.size+1 by simp] at this
   exact this.step h
  ·exact(((Q2 _ _).alloc (Q1 _) _).alloc (by simp) _).trans (h.mono (by simp;omega)))
 have hu:Bm0 ty ⟨b,n,s⟩ q ⟨b',n',s'⟩ q'=if cmp ty b n s b' n' s'≠0 then cmp ty b n s b' n' s' else cmpI q q':=rfl
 rw[hu];clear hu
 generalize cmp ty b n s b' n' s'=c at *
 go_enter Tryz.func115,Tryz.ntmps115
 by_cases h0:c=0
 ·subst h0
  have h1:(if(0:Int)≠0 then(0:Int) else cmpI q q')=cmpI q q':=rfl
  rw[h1];clear h1
  have h2:(q<q'/\cmpI q q' = -1)\/(¬q<q'/\q'<q/\cmpI q q'=1)\/(¬q<q'/\¬q'<q/\cmpI q q'=0):=by
   unfold cmpI
   by_cases h:q<q'
   ·exact .inl ⟨h,by simp[h]⟩
   ·by_cases h':q'<q
    ·exact .inr (.inl ⟨h,h',by rw[if_neg h,if_pos h']⟩)
    ·exact .inr (.inr ⟨h,h',by rw[if_neg h,if_neg h']⟩)
  rcases h2 with⟨e1,e2⟩ | ⟨e0,e1,e2⟩ | ⟨e0,e1,e2⟩
  ·rw[e2]
   clear e2
   have t1:decide (q<q')=true:=Q4 e1
   clear e1
   go_wp2_with(first | ((with_reducible refine(HC _).out.mono ?_);rintro e w1 ⟨rfl,hb⟩;obtain⟨⟨a0,a1,a2,a3⟩,⟨d0,d1,d2,d3⟩,hbel⟩:=hV.out _ hb;clear hb) | fail)
   go_ret
   exact RetB.mk rfl hbel
  ·rw[e2]
   clear e2
   have t1:decide (q<q')=false:=Q3 e0
   have t2:decide (q'<q)=true:=Q4 e1
   clear e0 e1
   go_wp2_with(first | ((with_reducible refine(HC _).out.mono ?_);rintro e w1 ⟨rfl,hb⟩;obtain⟨⟨a0,a1,a2,a3⟩,⟨d0,d1,d2,d3⟩,hbel⟩:=hV.out _ hb;clear hb) | fail)
   go_ret
   exact RetB.mk rfl hbel
  ·rw[e2]
   clear e2
   have t1:decide (q<q')=false:=Q3 e0
   have t2:decide (q'<q)=false:=Q3 e1
   clear e0 e1
   go_wp2_with(first | ((with_reducible refine(HC _).out.mono ?_);rintro e w1 ⟨rfl,hb⟩;obtain⟨⟨a0,a1,a2,a3⟩,⟨d0,d1,d2,d3⟩,hbel⟩:=hV.out _ hb;clear hb) | fail)
   go_ret
   exact RetB.mk rfl hbel
 ·rw[if_pos h0]
  have t0:(c !=0)=true:=Ab5 h0
  clear h0
  go_wp2_with(first | ((with_reducible refine(HC _).out.mono ?_);rintro e w1 ⟨rfl,hb⟩;obtain⟨⟨a0,a1,a2,a3⟩,⟨d0,d1,d2,d3⟩,hbel⟩:=hV.out _ hb;clear hb) | fail)
  go_ret
  exact RetB.mk rfl hbel
theorem Cs4(cs:List Col)(v:Value)(k:Nat)(W:World)(hS:RdC W W.heap.size v cs)(hk:k<cs.length):
   Calls Tryz.prog 71 #[.agg #[v,.int .i64 (k:Int)]] W (RetB (.int .i64 (cs.getD k col0).ty) W):=by
 obtain⟨A2,c2,rfl,Ae,Ad,Aa⟩:=hS
 unfold maxLen at Ad
 obtain⟨ad,rfl,Ac,Ab⟩:=Aa k hk
 have hB:Below W.heap.size W (W.alloc (.cells #[.slice (some ad) cs.length c2,.int .i64 (k:Int)] 24)):=(Q2 _ _).alloc (Q1 _) _
 obtain⟨k0,k1,k2,k3⟩:=Ab.below hB Ac
 generalize cs.getD k col0=C at *
 obtain⟨nm,ty,sc,nu⟩:=C
 simp only at k0 k1 k2 k3⊢
 clear Aa Ab
 go_enter Tryz.func71,Tryz.ntmps71
 go_wp2
 go_ret
 exact RetB.mk rfl hB
end Go.P
namespace Go.RS
open RowKit VB VS VL SC CK Go.ST MK
theorem Bd8{k:Nat}{r:Rc}(h:k<r.row.length):An1 k r=Ac9 k r/\At6 k r=r.seq:=by
 unfold An1 At6
 rw[if_neg (by omega),if_neg (by omega)]
 exact⟨rfl,rfl⟩
theorem Co3{p:Nat->Rc->Rc->Prop}{j:Nat}{l:List Rc}{x y:Rc}(h:∀(m:Nat)(a b:Rc),m+1<j+1->l[m]?=some a->l[m+1]?=some b->p m a b)(hx:l[j]?=some x)(hy:l[j+1]?=some y)(hp:p j x y):
   ∀(m:Nat)(a b:Rc),m+1<j+2->l[m]?=some a->l[m+1]?=some b->p m a b:=by
 intro m a b hm h1 h2
 by_cases e:m=j
 ·subst e;rw[hx] at h1;rw[hy] at h2;cases h1;cases h2;exact hp
 ·exact h m a b (by omega) h1 h2
end Go.RS
namespace Go.P
open RowKit VB VS VL SC CK Go.ST MK RS
theorem Dc2(cs:List Col)(v:Value)(k:Nat)(a b:Rc)(xa xb:Value)(W:World)(hS:RdC W W.heap.size v cs)(hk:k<cs.length)(ha:RdL W W.heap.size xa a.row)(hb:RdL W W.heap.size xb b.row)(la:a.row.length=cs.length)(lb:b.row.length=cs.length):
   Calls Tryz.prog 78 #[.agg #[v,.int .i64 (k:Int)],.agg #[.int .i64 a.seq,xa],.agg #[.int .i64 b.seq,xb]] W (RetB (.bool (decide (Ac8 (cs.getD k col0).ty k a b<0))) W):=by
 obtain⟨A2,c2,rfl,Bf,Bc,Aq⟩:=hS
 unfold maxLen at Bc
 obtain⟨ad,rfl,Az,Au⟩:=Aq k hk
 obtain⟨rA,rc,n1,rfl,h1,-,-⟩:=ha.bds
 obtain⟨rB,rd,n2,rfl,h2,-,-⟩:=hb.bds
 subst h1 h2
 obtain⟨e1,e2⟩:=Bd8 (k:=k) (r:=a) (by omega)
 obtain⟨e3,e4⟩:=Bd8 (k:=k) (r:=b) (by omega)
 have Ah:=fun w(h:Below W.heap.size W w)=>Bl2 (some ad) cs.length c2 k a rA rc w (ha.step h)
 have Ai:=fun w(h:Below W.heap.size W w)=>Bl2 (some ad) cs.length c2 k b rB rd w (hb.step h)
 simp only[e1,e2] at Ah
 simp only[e3,e4] at Ai
 unfold Ac8
 have hC:=fun w=>Cw9 (cs.getD k col0).ty (Ac9 k a).nu (Ac9 k a).n (Ac9 k a).s a.seq (Ac9 k b).nu (Ac9 k b).n (Ac9 k b).s b.seq w
 have Ar:∀x:Vl,(⟨x.nu,x.n,x.s⟩:Vl)=x:=fun _=>rfl
 simp only[Ar] at hC
 generalize Bm0 (cs.getD k col0).ty (Ac9 k a) a.seq (Ac9 k b) b.seq=E at *
 generalize (Ac9 k a).nu=a1 at *
 generalize (Ac9 k a).n=a2 at *
 generalize (Ac9 k a).s=a3 at *
 generalize (Ac9 k b).nu=b1 at *
 generalize (Ac9 k b).n=b2 at *
 generalize (Ac9 k b).s=b3 at *
 generalize a.row.length=Ad at *
 generalize b.row.length=Ab at *
 generalize a.seq=qa at *
 generalize b.seq=qb at *
 have Aw:=Var2.new W (.slice (some ad) cs.length c2) (.int .i64 (k:Int)) 24
 have Ao:Below W.heap.size W (W.alloc (.cells #[.slice (some ad) cs.length c2,.int .i64 (k:Int)] 24)):=(Q2 _ _).alloc (Q1 _) _
 generalize Aj:W.alloc (.cells #[.slice (some ad) cs.length c2,.int .i64 (k:Int)] 24)=X1 at *
 have As:X1.heap.size=W.heap.size+1:=by rw[←Aj];simp
 have Ap:=Var2.new X1 (.int .i64 qa) (.slice rA Ad rc) 67
 have Af:=Aw.step ((Q2 _ _).alloc (Q1 _) (.cells #[.int .i64 qa,.slice rA Ad rc] 67))
 have Ay:=Ao.alloc (by omega) (.cells #[.int .i64 qa,.slice rA Ad rc] 67)
 generalize Ag:X1.alloc (.cells #[.int .i64 qa,.slice rA Ad rc] 67)=X2 at *
 have Ax:X2.heap.size=W.heap.size+2:=by rw[←Ag];simp;omega
 have Ak:=Var2.new X2 (.int .i64 qb) (.slice rB Ab rd) 67
 have Aa:=Af.step ((Q2 _ _).alloc (Q1 _) (.cells #[.int .i64 qb,.slice rB Ab rd] 67))
 have Ac:=Ap.step ((Q2 _ _).alloc (Q1 _) (.cells #[.int .i64 qb,.slice rB Ab rd] 67))
 have Ae:=Ay.alloc (by omega) (.cells #[.int .i64 qb,.slice rB Ab rd] 67)
 generalize An:X2.alloc (.cells #[.int .i64 qb,.slice rB Ab rd] 67)=X3 at *
 have Bd:=Hd (show((W.alloc (.cells #[.slice (some ad) cs.length c2,.int .i64 (k:Int)] 24)).alloc (.cells #[.int .i64 qa,.slice rA Ad rc] 67)).alloc (.cells #[.int .i64 qb,.slice rB Ab rd] 67)=X3 by rw[Aj,Ag,An])
 rw[As] at Ac
 rw[Ax] at Ak
 clear Aj Ag An As Ax Ao Ay Aw Af Ap
 generalize cs.getD k col0=C at *
 obtain⟨nm,ty,sc,nu⟩:=C
 have HV:=Hd (show ∀w,Below X3.heap.size X3 w->Var2 w W.heap.size (.slice (some ad) cs.length c2) (.int .i64 (k:Int))/\Var2 w (W.heap.size+1) (.int .i64 qa) (.slice rA Ad rc)/\Var2 w (W.heap.size+2) (.int .i64 qb) (.slice rB Ab rd)/\At4 w ad k ⟨nm,ty,sc,nu⟩/\Below W.heap.size W w from fun w h=>
  have h2:=Aa0 Ae h
  ⟨Aa.step h,Ac.step h,Ak.step h,Au.below h2 Az,h2⟩)
 have Be:=fun w(h:Below X3.heap.size X3 w)=>Hd (Ah w (Aa0 Ae h))
 have Bb:=fun w(h:Below X3.heap.size X3 w)=>Hd (Ai w (Aa0 Ae h))
 have HC:=fun w=>Hd (hC w)
 have Ba:=Hd Ae
 clear Ah Ai hC Aa Ac Ak Au Ae ha hb la lb Aq e1 e2 e3 e4 Ar
 go_enter Tryz.func78,Tryz.ntmps78
 go_wp2_with fail
 rw[Bd.out]
 refine Go.Confl.wp_region_confl (by simp only[List.map_cons,List.map_nil];rfl) (by kernel_rfl) (by kernel_rfl) ?_
 iterate 16
  first
  | (refine Go.Confl.chain_skip (Go.Confl.unwanted_is rfl rfl) ?_)
  | (first | apply Go.Confl.chain_is _ (Go.Confl.wanted_none rfl) | apply Go.Confl.chain_is _ (Go.Confl.wanted_is rfl rfl)
     ·intro b w hr hb K hK
      simp[Go.Confl.readFacts,Go.Confl.tmpsOf,Go.Confl.writerOf,Go.Confl.Is,Op.operands,Call.operands,List.findIdx?,List.findIdx?.go] at hr
      obtain⟨⟨v0,v1,-,-⟩,⟨m0,m1,-,-⟩,⟨n0,n1,-,-⟩,⟨k0,k1,k2,k3⟩,-⟩:=HV.out _ hb
      simp only at k0 k1 k2 k3
      go_wp2_with(first
       | (go_at_call 87;(with_reducible refine(Be _ hb).out.mono ?_);rintro e w' ⟨rfl,Al⟩)
       | (go_at_call 87;(with_reducible refine(Bb _ hb).out.mono ?_);rintro e w' ⟨rfl,Al⟩)
       | (go_at_call 115;(with_reducible refine(HC _).out.mono ?_);rintro e w' ⟨rfl,Al⟩))
      try(simp only[hr];go_wp2)
      exact hK _ _ rfl (by first | exact Q2 _ _ | assumption))
  simp only[List.nil_append,List.cons_append]
 intro us w hp hb
 simp[Go.Confl.allPosts,Go.Confl.Is] at hp
 simp only[Go.Confl.putsFrom,hp,Act.put,List.setIfInBounds_toArray,List.set_cons_zero,List.set_cons_succ]
 go_wp2
 go_ret
 exact RetB.mk rfl (Aa0 Ba.out hb)
theorem Ck6(cs:List Col)(v:Value)(key:Int)(x:Value)(l:List Rc)(W:World)(hr:RdC W W.heap.size v cs)(hx:RdR W W.heap.size x l):
   Calls Tryz.prog 36 #[.agg #[v,.int .i64 key],x] W (RetB (.bool (Ak3 cs key l)) W):=by
 obtain⟨A,c,n,rfl,hn,Bl,Bn⟩:=hx.bds
 have HN:=Hd hn;clear hn
 have HX:=Hd hx;have HR:=Hd hr
 clear hx hr
 have HV:=Hd (Var2.new W v (.int .i64 key) 24)
 have Ae:=Hd ((Q2 W.heap.size W).alloc (Q1 _) (.cells #[v,.int .i64 key] 24))
 have Az:=Hd (show(W.alloc (.cells #[v,.int .i64 key] 24)).heap.size=W.heap.size+1 from by simp)
 have Aa:=Eq1 cs v key (.slice A n c) l (W.alloc (.cells #[v,.int .i64 key] 24)) (HR.out.step Ae.out) (HX.out.step Ae.out)
 obtain⟨v0,v1,_,_⟩:=id HV.out
 go_enter Tryz.func36,Tryz.ntmps36
 cases hv:Bg2 cs key l with
 | false=>
   rw[By0 hv]
   rw[hv] at Aa
   have Aa:=Hd Aa
   clear hv
   go_wp2_with fail
   (with_reducible refine Aa.out.mono ?_);rintro e w1 ⟨rfl,Ak⟩
   go_wp2_with fail
   go_ret
   exact RetB.mk rfl (Aa0 Ae.out Ak)
 | true=>
   rw[Aw9 hv]
   rw[hv] at Aa
   have Aa:=Hd Aa
   obtain⟨Ay,Ag⟩:=Am7 hv
   obtain⟨-,-,-,Bc,Bb⟩:=Ad7 Ay
   obtain⟨k,rfl⟩:∃k:Nat,key=k:=⟨key.toNat,by omega⟩
   have Au:k<cs.length:=by omega
   have Af:=Hd Ag;have HKL:=Hd Au
   clear hv Ay Ag Bc Bb Au
   rw[show Be6 cs (k:Int)=(cs.getD k col0).ty from rfl,Int.toNat_natCast]
   have Ad:=fun i a b=>Hd (Cx1 (ty:=(cs.getD k col0).ty) (k:=k) (l:=l) (i:=i) (a:=a) (b:=b))
   have Ar:=Hd (Bw7 (ty:=(cs.getD k col0).ty) (k:=k) (l:=l))
   generalize Ec5 (cs.getD k col0).ty k l=E at *
   generalize Aw:(cs.getD k col0).ty=TY at *
   have Be:=Hd Aw;clear Aw
   go_wp2_with fail
   (with_reducible refine Aa.out.mono ?_);rintro e w1 ⟨rfl,Ak⟩
   have Ax:=Hd (show Below (W.heap.size+1) (W.alloc (.cells #[v,.int .i64 (k:Int)] 24)) w1 from Ak.mono (by rw[Az.out];omega))
   clear Ak Aa v0 v1
   go_wp2_with fail
   go_loopw[4,5] (fun r i wr=>∃j:Nat,r=.bool false/\i=.int .i64 ((j:Int)+1)/\(j<n\/j=0)/\Below (W.heap.size+1) (W.alloc (.cells #[v,.int .i64 (k:Int)] 24)) wr/\Hid (∀(m:Nat)(a b:Rc),m+1<j+1->l[m]?=some a->l[m+1]?=some b->Ac8 TY k a b<0)) (fun _ i _=>n+1-(intOf i).toNat)
   case atStart=>exact⟨0,rfl,rfl,.inr rfl,Ax.out,Hd fun m a b h=>absurd h (by omega)⟩
   case round=>
    clear Ax
    obtain⟨j,rfl,rfl,hj,Ab,HF⟩:=hrel
    have Al:Below W.heap.size W wr:=Ae.out.trans (Ab.mono (Nat.le_succ _))
    have Bg:=Ab.size
    rw[Az.out] at Bg
    by_cases Ac:j+1<n
    ·have As:j<l.length:=by have:=HN.out;omega
     have Ah:j+1<l.length:=by have:=HN.out;omega
     have Ap:l[j]?=some l[j]:=Q7 As
     have Aq:l[j+1]?=some l[j+1]:=Q7 Ah
     obtain⟨ad,rA,rn,rc,rfl,-,q0,q1,-,qr⟩:=(HX.out.below Al).at Ap
     obtain⟨Bm,Bd,Bk,Bf,he,-,p0,p1,-,pr⟩:=(HX.out.below Al).at Aq
     cases he
     have Aj:=Hd Ap;have HJ2:=Hd Aq;clear Ap Aq
     generalize l[j]=R at q0 q1 qr Aj
     generalize l[j+1]=T at p0 p1 pr HJ2
     clear As Ah
     have HQ:=fun w(h:Below wr.heap.size wr w)=>Hd (Dc2 cs v k R T _ _ w ((HR.out.step Al).step h) HKL.out ((qr.more (by omega:W.heap.size<=wr.heap.size)).step h) ((pr.more (by omega:W.heap.size<=wr.heap.size)).step h) (Al2 (Af.out R (List.mem_of_getElem? Aj.out))).2.2 (Al2 (Af.out T (List.mem_of_getElem? HJ2.out))).2.2)
     rw[Be.out] at HQ
     have Ai:=fun w(h:Below wr.heap.size wr w)=>Hd (And.intro ((HV.out.below Ab (Nat.lt_succ_self _)).step h) (And.intro (Ab.trans (h.mono (by omega))) (Nat.zero_le 0)))
     have An:=fun w(h:Below wr.heap.size wr w)=>Hd (show w.cell? (ad.add (j*2))=some (.int .i64 R.seq)/\w.cell? ⟨(ad.add (j*2)).block,(ad.add (j*2)).off+1,none⟩=some (.slice rA rn rc)/\w.cell? (ad.add ((j+1)*2))=some (.int .i64 T.seq)/\w.cell? ⟨(ad.add ((j+1)*2)).block,(ad.add ((j+1)*2)).off+1,none⟩=some (.slice Bd Bk Bf) from by
      have Ac:=World.block_lt_of_cell? wr _ q0
      rw[Go.VB.block_add] at Ac
      refine⟨?_,?_,?_,?_⟩
      ·rw[h.cell (by rw[Go.VB.block_add];exact Ac)];exact q0
      ·rw[h.cell (p:=⟨(ad.add (j*2)).block,_,none⟩) (by show(ad.add (j*2)).block<_;rw[Go.VB.block_add];exact Ac)];exact q1
      ·rw[h.cell (by rw[Go.VB.block_add];exact Ac)];exact p0
      ·rw[h.cell (p:=⟨(ad.add ((j+1)*2)).block,_,none⟩) (by show(ad.add ((j+1)*2)).block<_;rw[Go.VB.block_add];exact Ac)];exact p1)
     generalize R.seq=qa at *
     generalize T.seq=qb at *
     have Bh:wrap64 ((j:Int)+1-1)=(j:Int):=by unfold wrap64;omega
     have Bj:(j:Int)+1<(n:Int):=by omega
     clear q0 q1 p0 p1 qr pr
     by_cases hc:Ac8 TY k R T<0
     ·have hd:decide (Ac8 TY k R T<0)=true:=Q4 hc
      rw[hd] at HQ
      have Bi:=Hd (Co3 (p:=fun _ a b=>Ac8 TY k a b<0) HF.out Aj.out HJ2.out hc)
      clear hd hc
      go_wp2_with fail
      refine Go.Confl.wp_region_confl (by simp only[List.map_cons,List.map_nil];rfl) (by kernel_rfl) (by kernel_rfl) ?_
      iterate 12
       first
       | (refine Go.Confl.chain_skip (Go.Confl.unwanted_is rfl rfl) ?_)
       | (first | apply Go.Confl.chain_is _ (Go.Confl.wanted_none rfl) | apply Go.Confl.chain_is _ (Go.Confl.wanted_is rfl rfl)
          ·intro b w hr hb K hK
           simp[Go.Confl.readFacts,Go.Confl.tmpsOf,Go.Confl.writerOf,Go.Confl.Is,Op.operands,Call.operands,List.findIdx?,List.findIdx?.go] at hr
           obtain⟨⟨v0,v1,-,-⟩,-,-⟩:=(Ai _ hb).out
           obtain⟨q0,q1,p0,p1⟩:=(An _ hb).out
           go_wp2_with(first
            | (go_at_call 78;(with_reducible refine(HQ _ hb).out.mono ?_);rintro e w' ⟨rfl,Ba⟩))
           try(simp only[hr];go_wp2)
           exact hK _ _ rfl (by first | exact Q2 _ _ | assumption))
       simp only[List.nil_append,List.cons_append]
      intro us w hp hb
      simp[Go.Confl.allPosts,Go.Confl.Is] at hp
      simp only[Go.Confl.putsFrom,hp,Act.put,List.setIfInBounds_toArray,List.set_cons_zero,List.set_cons_succ]
      obtain⟨-,Ao,-⟩:=(Ai _ hb).out
      clear hb HQ An
      go_wp2_with fail
      go_roundw
      case rel=>exact⟨j+1,rfl,by go_num,.inl Ac,Ao,Bi⟩
      case measure=>simp[intOf]<;>omega
     ·have hd:decide (Ac8 TY k R T<0)=false:=Q3 hc
      rw[hd] at HQ
      have HE:=Hd ((Ad j R T).out Aj.out HJ2.out (by omega))
      clear hd hc
      go_wp2_with fail
      refine Go.Confl.wp_region_confl (by simp only[List.map_cons,List.map_nil];rfl) (by kernel_rfl) (by kernel_rfl) ?_
      iterate 12
       first
       | (refine Go.Confl.chain_skip (Go.Confl.unwanted_is rfl rfl) ?_)
       | (first | apply Go.Confl.chain_is _ (Go.Confl.wanted_none rfl) | apply Go.Confl.chain_is _ (Go.Confl.wanted_is rfl rfl)
          ·intro b w hr hb K hK
           simp[Go.Confl.readFacts,Go.Confl.tmpsOf,Go.Confl.writerOf,Go.Confl.Is,Op.operands,Call.operands,List.findIdx?,List.findIdx?.go] at hr
           obtain⟨⟨v0,v1,-,-⟩,-,-⟩:=(Ai _ hb).out
           obtain⟨q0,q1,p0,p1⟩:=(An _ hb).out
           go_wp2_with(first
            | (go_at_call 78;(with_reducible refine(HQ _ hb).out.mono ?_);rintro e w' ⟨rfl,Ba⟩))
           try(simp only[hr];go_wp2)
           exact hK _ _ rfl (by first | exact Q2 _ _ | assumption))
       simp only[List.nil_append,List.cons_append]
      intro us w hp hb
      simp[Go.Confl.allPosts,Go.Confl.Is] at hp
      simp only[Go.Confl.putsFrom,hp,Act.put,List.setIfInBounds_toArray,List.set_cons_zero,List.set_cons_succ]
      obtain⟨-,Ao,-⟩:=(Ai _ hb).out
      clear hb HQ An HF Ad Ar
      go_wp2_with fail
      go_ret
      exact RetB.mk (by first | (rw[HE.out];rfl) | rw[HE.out]) (Ae.out.trans (Ao.mono (Nat.le_succ _)))
    ·have HE:=Hd (Ar.out (fun m a b h1 h2=>HF.out m a b (by have:=(List.getElem?_eq_some_iff.1 h2).1;have:=HN.out;omega) h1 h2))
     clear HF Ad Ar
     have hd:decide ((j:Int)+1<(n:Int))=false:=Q3 (by omega)
     go_wp2
     go_ret
     exact RetB.mk (by first | (rw[HE.out];rfl) | rw[HE.out]) Al
end Go.P

namespace Go.RS
open RowKit VB VS VL SC CK Go.ST MK
section
variable {w:World} {B n c:Nat} {ad:Addr} {r:Rc} {l:List Rc} {A:Option Addr} {v:Value}
end
end Go.RS
namespace Go.P
open RowKit VB VS VL SC CK Go.ST MK RS
end Go.P
namespace Go.ST
section
variable {α:Type} {le:α->α->Bool}
theorem Ej2(le:α->α->Bool)(Aa:List α)(r:α):(insR le Aa r).length=Aa.length+1:=by
 have e:Aa.takeWhile (le · r)++Aa.dropWhile (le · r)=Aa:=List.takeWhile_append_dropWhile
 have h:=congrArg List.length e
 rw[Q5] at h
 unfold insR
 rw[Q5,Q6]
 omega
theorem Ee9(le:α->α->Bool)(l:List α):(srtL le l).length=l.length:=by
 have key:∀(l Aa:List α),(l.foldl (insR le) Aa).length=Aa.length+l.length:=by
  intro l
  induction l with
  | nil=>intro Aa;simp
  | cons x r ih=>intro Aa;rw[List.foldl_cons,ih,Ej2,Q6];omega
 rw[srtL,key];simp
end
end Go.ST
namespace Go.RS
open RowKit VB VS VL SC CK Go.ST MK
theorem Co2(ty:Int)(k:Nat)(l:List Rc):(Bc9 ty k l).length=l.length:=Ee9 _ l
theorem Co1{ty:Int}{k:Nat}{l:List Rc}{x:Rc}(h:x∈Bc9 ty k l):x∈l:=((srtL_spec (Ag6 ty k) l).mem (Ag6 ty k) x).1 h
end Go.RS
namespace Go.P
open RowKit VB VS VL SC CK Go.ST MK RS
end Go.P
