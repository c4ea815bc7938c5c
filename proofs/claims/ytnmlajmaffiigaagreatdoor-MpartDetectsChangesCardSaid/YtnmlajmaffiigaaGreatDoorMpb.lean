/- Texts of one part, joined. -/
import Derived.Test.YtnmlajmaffiigaaGreatDoorZon
import Derived.Test.YtnmlajmaffiigaaGreatDoorGa
import Derived.Test.YtnmlajmaffiigaaGreatDoorMpa
import Derived.Test.YtnmlajmaffiigaaGreatDoorBt6
import Derived.Test.YtnmlajmaffiigaaGreatDoorCkW1
import Derived.Test.YtnmlajmaffiigaaGreatDoorCkR4
import Derived.Test.YtnmlajmaffiigaaGreatDoorCkR1
import Derived.Test.YtnmlajmaffiigaaGreatDoorGr
import Derived.Maps.AppendAt
import Derived.Test.YtnmlajmaffiigaaGreatDoorGd
import Derived.Deep.RegionLaw
set_option linter.constructorNameAsVariable false
set_option maxRecDepth 100000
set_option maxHeartbeats 1000000
open Go Go.Proofs Go.Proofs.YtnmlajmaffiigaaGreatDoor Go.P
namespace Go.MP
open RowKit VB VS VL MK ZN
structure VarC(w:World)(b:Nat)(vs:List Value):Prop where
 c:∀k u,vs[k]?=some u->w.cell? ⟨b,k,none⟩=some u
 fr:∀k,k<vs.length->w.frozen? ⟨b,k,none⟩=false
 lt:b<w.heap.size
section
variable {w w':World} {b c B k:Nat} {vs:List Value} {x:Value}
theorem VarC.new(w:World)(vs:List Value)(T:TypeId):VarC (w.alloc (.cells vs.toArray T)) w.heap.size vs:=by
 refine⟨fun k u h=>?_,fun k h=>?_,by simp⟩
 ·simp[h]
 ·simp
theorem VarC.below(h:VarC w b vs)(hb:Below B w w')(hB:b<B):VarC w' b vs:=
 ⟨fun k u hu=>by rw[hb.cell hB];exact h.c k u hu,fun k hk=>by rw[hb.frozen hB];exact h.fr k hk,Nat.lt_of_lt_of_le h.lt hb.size⟩
theorem VarC.step(h:VarC w b vs)(hb:Below w.heap.size w w'):VarC w' b vs:=h.below hb h.lt
theorem VarC.alloc(h:VarC w b vs)(o:Obj):VarC (w.alloc o) b vs:=h.step ((Q2 _ _).alloc (Q1 _) o)
theorem VarC.other(h:VarC w b vs)(hc:b≠c)(i:Nat)(x:Value):VarC (w.setCell ⟨c,i,none⟩ x) b vs:=by
 have hk:∀(i j:Nat),(⟨c,i,none⟩:Addr)≠⟨b,j,none⟩:=fun i j e=>hc (congrArg Addr.block e).symm
 exact⟨fun k u hu=>by rw[World.cell?_setCell_other _ _ _ _ (hk _ _)];exact h.c k u hu,fun k hk'=>by rw[World.frozen?_setCell];exact h.fr k hk',by rw[World.size_setCell];exact h.lt⟩
theorem VarC.set(h:VarC w b vs)(hk:k<vs.length)(x:Value):VarC (w.setCell ⟨b,k,none⟩ x) b (vs.set k x):=by
 refine⟨fun j u hu=>?_,fun j hj=>by rw[World.frozen?_setCell];exact h.fr j (by rwa [List.length_set] at hj),by rw[World.size_setCell];exact h.lt⟩
 by_cases hj:k=j
 ·subst hj
  rw[List.getElem?_set_self hk] at hu
  cases hu
  exact World.cell?_setCell_same _ _ _ (h.c k vs[k] (Q7 hk))
 ·rw[List.getElem?_set_ne hj] at hu
  rw[World.cell?_setCell_other _ _ _ _ (fun e=>hj (congrArg Addr.off e))]
  exact h.c j u hu
theorem VarC.putC:∀(us:List Value)(o:Nat){w:World}{vs:List Value},VarC w b vs->o+us.length<=vs.length->VarC (Go.MK.putC w b o us) b (Fh2 vs o us)
 | [],_,_,_,h,_=>h
 | u::us,o,w,vs,h,hl=>by
   rw[Q6] at hl
   exact VarC.putC us (o+1) (h.set (k:=o) (by omega) u) (by rw[List.length_set];omega)
theorem VarC.oputC(hc:b≠c):∀(us:List Value)(o:Nat){w:World},VarC w b vs->VarC (Go.MK.putC w c o us) b vs
 | [],_,_,h=>h
 | u::us,o,_,h=>VarC.oputC hc us (o+1) (h.other hc o u)
end
theorem Af2{g base sz n:Nat}{e:TypeId}{v:Value}{xs:List Value}(hg:g<base):∀(us:List Value)(o:Nat){w:World},w.ownsRow base e sz v n xs->(Go.MK.putC w g o us).ownsRow base e sz v n xs
 | [],_,_,h=>h
 | u::us,o,_,h=>Af2 hg us (o+1) (ownsRow_setCell_below h (a:=⟨g,o,none⟩) hg u)
theorem De2{g base:Nat}{e:TypeId}{ps:List Go.RS.Sl}{ls:List (List Vl)}{w:World}(hg:g<base)(us:List Value)(o:Nat)(h:Go.RS.DeepLO e w base ps ls):Go.RS.DeepLO e (Go.MK.putC w g o us) base ps ls:=
 ⟨h.1,fun i p r h1 h2=>Af2 hg us o (h.2 i p r h1 h2)⟩
def zonL:Lay Zn where
 K:=8
 cs z:=[.int .i64 z.rows,.int .i64 z.nulls,.bool z.mn.nu,.int .i64 z.mn.n,.string z.mn.s,.bool z.mx.nu,.int .i64 z.mx.n,.string z.mx.s]
 len _:=rfl
 pos:=by decide
 one x u hu:=by
  simp only[List.mem_cons,List.not_mem_nil,or_false] at hu
  rcases hu with rfl | rfl | rfl | rfl | rfl | rfl | rfl | rfl<;>rfl
 z:=zn0
 zv:=.agg #[.int .i64 0,.int .i64 0,.bool false,.int .i64 0,.string ⟨#[]⟩,.bool false,.int .i64 0,.string ⟨#[]⟩]
 zc:=rfl
def Dg4(v:Value)(f:Inf):Value:=.agg #[.int .i64 (f.rows:Nat),v,.bool f.lo.nu,.int .i64 f.lo.n,.string f.lo.s,.int .i64 (f.lq:Nat),.bool f.hi.nu,.int .i64 f.hi.n,.string f.hi.s,.int .i64 (f.hq:Nat)]
def infC(v:Value)(f:Inf):List Value:=[.int .i64 (f.rows:Nat),v,.bool f.lo.nu,.int .i64 f.lo.n,.string f.lo.s,.int .i64 (f.lq:Nat),.bool f.hi.nu,.int .i64 f.hi.n,.string f.hi.s,.int .i64 (f.hq:Nat)]
def InfP(f:Inf)(w:World):Ending->World->Prop:=fun en w'=>∃v,en=.returned (Dg4 v f)/\RdK zonL w' w'.heap.size v f.zs/\Below w.heap.size w w'
end Go.MP
namespace Go.MP
open RowKit VB VarM BP VS VL CK
def wpt(s:ByteArray):Nat->Nat
 | 0=>0
 | 1=>bN s 0
 | 2=>bN s 0+256*bN s 1
 | 3=>bN s 0+256*bN s 1+65536*bN s 2
 | _=>Ac6 s 0
theorem Dh6(s:ByteArray):bits .or .u32 ((wpt s 0:Nat):Int) ((bN s 0:Nat):Int)=((wpt s 1:Nat):Int)/\bits .or .u32 ((wpt s 1:Nat):Int) (((bN s 1*256:Nat)):Int)=((wpt s 2:Nat):Int) /\
   bits .or .u32 ((wpt s 2:Nat):Int) (((bN s 2*65536:Nat)):Int)=((wpt s 3:Nat):Int)/\bits .or .u32 ((wpt s 3:Nat):Int) (((bN s 3*16777216:Nat)):Int)=((wpt s 4:Nat):Int):=by
 have l0:=Ah2 s 0;have l1:=Ah2 s 1;have l2:=Ah2 s 2;have l3:=Ah2 s 3
 have e4:wpt s 4=bN s 0+256*bN s 1+65536*bN s 2+16777216*bN s 3:=rfl
 unfold wpt at *
 simp only at e4⊢
 refine⟨?_,?_,?_,?_⟩
 ·rw[u32_or_nat 0 _ (by omega) (by omega),Nat.zero_or]
 ·rw[Bt2 (k:=8) (by omega) (by omega) (by omega)];congr 1;omega
 ·rw[Bt2 (k:=16) (by omega) (by omega) (by omega)];congr 1;omega
 ·rw[Bt2 (k:=24) (by omega) (by omega) (by omega),e4];congr 1;omega
end Go.MP
namespace Go.P
open RowKit VB VarM BP VS VL SC CK Go.ST MK RS ZN MP
theorem Bj2(s:ByteArray)(W:World)(h4:4<=s.size):Calls Tryz.prog 104 #[.string s] W (RetB (.int .u32 (Ac6 s 0:Nat)) W):=by
 have hg:=Ai1 s
 obtain⟨o0,o1,o2,o3⟩:=Dh6 s
 have HO:=Hd (show wpt s 4=Ac6 s 0 from rfl)
 have HZ:=Hd (show wpt s 0=0 from rfl)
 have O0:=Hd o0;have O1:=Hd o1;have O2:=Hd o2;have O3:=Hd o3
 have l0:=Ah2 s 0;have l1:=Ah2 s 1;have l2:=Ah2 s 2;have l3:=Ah2 s 3
 have q0:(0:Int)<(s.size:Int):=by omega
 have q1:(1:Int)<(s.size:Int):=by omega
 have q2:(2:Int)<(s.size:Int):=by omega
 have q3:(3:Int)<(s.size:Int):=by omega
 have n0:0<s.size:=by omega
 have n1:1<s.size:=by omega
 have n2:2<s.size:=by omega
 have n3:3<s.size:=by omega
 clear h4 o0 o1 o2 o3
 go_enter Tryz.func104,Tryz.ntmps104
 go_wp2
 go_loopw[3,5] (fun v i wr=>∃(j:Nat),i=.int .i64 j/\v=.int .u32 (wpt s j:Nat)/\j<=4/\Below W.heap.size W wr) (fun _ i _=>4-(intOf i).toNat)
 case atStart=>exact⟨0,rfl,by rw[HZ.out];rfl,by omega,Q2 _ _⟩
 case round=>
  obtain⟨j,rfl,rfl,hj,Aa⟩:=hrel
  have h4:j=0\/j=1\/j=2\/j=3\/j=4:=by omega
  rcases h4 with rfl | rfl | rfl | rfl | rfl
  ·generalize hX:wpt s 0=X at *
   go_wp2_with fail
   go_roundw
   case rel=>exact⟨1,by go_num,congrArg (Value.int .u32) (by first | exact O0.out | (rw[←O0.out];simp) | (rw[←O0.out];congr 1;omega)),by omega,Aa⟩
   case measure=>simp[intOf]<;>omega
  ·generalize hX:wpt s 1=X at *
   go_wp2_with fail
   go_roundw
   case rel=>exact⟨2,by go_num,congrArg (Value.int .u32) (by first | exact O1.out | (rw[←O1.out];simp) | (rw[←O1.out];congr 1;omega)),by omega,Aa⟩
   case measure=>simp[intOf]<;>omega
  ·generalize hX:wpt s 2=X at *
   go_wp2_with fail
   go_roundw
   case rel=>exact⟨3,by go_num,congrArg (Value.int .u32) (by first | exact O2.out | (rw[←O2.out];simp) | (rw[←O2.out];congr 1;omega)),by omega,Aa⟩
   case measure=>simp[intOf]<;>omega
  ·generalize hX:wpt s 3=X at *
   go_wp2_with fail
   go_roundw
   case rel=>exact⟨4,by go_num,congrArg (Value.int .u32) (by first | exact O3.out | (rw[←O3.out];simp) | (rw[←O3.out];congr 1;omega)),by omega,Aa⟩
   case measure=>simp[intOf]<;>omega
  ·rw[HO.out] at *
   go_wp2
   go_ret
   exact RetB.mk rfl Aa
theorem Dz0(cs:List Col)(v:Value)(key:Int)(i:Nat)(W:World)(hr:RdC W W.heap.size v cs):
   Calls Tryz.prog 82 #[.agg #[v,.int .i64 key],.int .i64 (i:Int)] W (RetB (Ak2 cs i).val W):=by
 have Ac:=Hd ((Q2 W.heap.size W).alloc (Q1 _) (.cells #[v,.int .i64 key] 24))
 have Ae:=Hd (show(W.alloc (.cells #[v,.int .i64 key] 24)).heap.size=W.heap.size+1 from by simp)
 have Af:=Hd (Ac.out.alloc (by rw[Ae.out];omega) (.cells #[.string ⟨#[]⟩,.int .i64 0,.int .i64 0,.bool false] 62))
 obtain⟨A,c,rfl,hc,hm,Aa⟩:=hr
 by_cases hi:i<cs.length
 ·rw[Am3 hi]
  obtain⟨ad,rfl,Ad,Ab⟩:=Aa i hi
  obtain⟨q0,q1,q2,q3⟩:=Ab.below Af.out Ad
  have hd:decide ((i:Int)<(cs.length:Int))=true:=Q4 (by omega)
  generalize cs.getD i col0=C at *
  obtain⟨nm,ty,sc,nu⟩:=C
  simp only at q0 q1 q2 q3
  clear Aa Ab
  go_enter Tryz.func82,Tryz.ntmps82
  go_wp2_with fail
  refine bodyPost_ret (v:=.agg #[.string nm,.int .i64 ty,.int .i64 sc,.bool nu]) (by simp[results,Tryz.results82,go_sem]) rfl ?_
  exact RetB.mk rfl (by go_grown)
 ·rw[Ay9 hi]
  have hd:decide ((i:Int)<(cs.length:Int))=false:=Q3 (by omega)
  clear Aa
  go_enter Tryz.func82,Tryz.ntmps82
  go_wp2_with fail
  refine bodyPost_ret (v:=.agg #[.string ⟨#[115,101,113]⟩,.int .i64 1,.int .i64 0,.bool false]) (by simp[results,Tryz.results82,go_sem]) rfl ?_
  exact RetB.mk rfl (by go_grown)
end Go.P
namespace Go.MP
open RowKit VB VS MK RS
def RetLO(eS eV:TypeId)(ls:List (List Vl))(w:World):Ending->World->Prop:=fun en w'=>∃v ps,en=.returned v/\OwnV Sl.val eS w' w.heap.size v ps/\DeepLO eV w' w.heap.size ps ls/\Below w.heap.size w w'
theorem RetLO.mk{eS eV:TypeId}{ls:List (List Vl)}{w w':World}{x v:Value}{ps:List Sl}(hx:x=v)(ho:OwnV Sl.val eS w' w.heap.size v ps)(h:DeepLO eV w' w.heap.size ps ls)(hb:Below w.heap.size w w'):RetLO eS eV ls w (.returned x) w':=⟨v,ps,by rw[hx],ho,h,hb⟩
end Go.MP
namespace Go.P
open RowKit VB VS VL SC CK Go.ST MK RS MP
theorem Eb0(x:Value)(l:List Rc)(n:Int)(W:World)(hx:RdR W W.heap.size x l)(hb:l.length*32<=140737488351232):
   Calls Tryz.prog 79 #[x,.int .i64 n] W (RetLO 63 49 (Dy8 n l) W):=by
 by_cases h1:n<1
 ·rw[Ay8 (.inl h1)]
  have hd:decide (n<1)=true:=Q4 h1
  clear h1 hx hb
  go_enter Tryz.func79,Tryz.ntmps79
  go_wp2
  go_ret
  exact RetLO.mk rfl (OwnV.nil _ _ _ _) (DeepLO.nil _ _ _) (Q2 _ _)
 have Al:decide (n<1)=false:=Q3 h1
 by_cases h2:12<n
 ·rw[Ay8 (.inr h2)]
  have hd:decide (12<n)=true:=Q4 h2
  clear h1 h2 hx hb
  go_enter Tryz.func79,Tryz.ntmps79
  go_wp2
  go_ret
  exact RetLO.mk rfl (OwnV.nil _ _ _ _) (DeepLO.nil _ _ _) (Q2 _ _)
 have Ao:decide (12<n)=false:=Q3 h2
 obtain⟨k,rfl⟩:∃k:Nat,n=k:=⟨n.toNat,by omega⟩
 rw[Bf0 (by omega) (by omega)]
 have Ac:=Am9 (P:=Tryz.prog) (z:=.slice none 0 0) rfl Tryz.underlying56 Tryz.infSl k (by omega) (by unfold maxLen;omega) W
 have Aa:=RowV.made Sl.val sl0 63 W W.heap.size k (Q1 _) (by unfold maxLen;omega)
 change RowV Sl.val 63 (W.alloc (.cells (madeCells #[.slice none 0 0] k) 63)) _ _ _ _ at Aa
 have Ah:Below W.heap.size W (W.alloc (.cells (madeCells #[.slice none 0 0] k) 63)):=(Q2 _ _).alloc (Q1 _) _
 generalize (W.alloc (.cells (madeCells #[.slice none 0 0] k) 63))=W1 at Aa Ah Ac
 have HX:=Hd hx;have HZ:=Hd hb;have HK:=Hd (show k<=12 by omega)
 clear hx hb h1 h2
 go_enter Tryz.func79,Tryz.ntmps79
 go_wp2
 clear Ac Al Ao
 go_loopw[6,17] (fun _ i wr=>∃(j:Nat)(ps ds:List Sl),i=.int .i64 j/\j<=k/\RowV Sl.val 63 wr W.heap.size W.heap.size k ps/\Hid (ps.length=k)/\Hid (ps=ds++List.replicate (k-j) sl0)/\Hid (DeepLO 49 wr (W.heap.size+1) ds ((List.range j).map fun c=>colL c l))/\Below W.heap.size W wr) (fun _ i _=>k-(intOf i).toNat)
 case atStart=>exact⟨0,_,[],rfl,Nat.zero_le _,Aa,Hd List.length_replicate,Hd rfl,Hd (DeepLO.nil _ _ _),Ah⟩
 case round=>
  clear Aa Ah
  obtain⟨j,ps,ds,rfl,hj,Ae,HL,HQ,HD,Ab⟩:=hrel
  have An:=Ae.lt.2
  have Aj:=Hd (show ds.length=j by rw[HD.out.1,List.length_map,List.length_range])
  by_cases hlt:j<k
  ·have hv:=Hd (Ed6 x l j wr ((HX.out.below Ab).more (by omega)) HZ.out)
   have As:=Hd Ae;have HBEL:=Hd Ab
   have Ad:=Bk0 HQ.out Aj.out hlt
   have Ai:=Hd Ad
   clear Ae Ab Ad
   go_wp2_with fail
   (with_reducible refine hv.out.mono ?_);rintro e w2 ⟨v,rfl,ho,Af⟩
   obtain⟨sA,sn,sc,rfl⟩:=Bi1 ho
   have Ag:=As.out.below Af
   have k0:=Ag.cell j sl0 Ai.out
   have Ay:=Ag.frozen j
   have Au:=Hd (Ag.store j ⟨sA,sn,sc⟩)
   have Ar:=Hd (Al4 (x:=(⟨sA,sn,sc⟩:Sl)) HQ.out Aj.out hlt)
   have Ax:=Hd (show DeepLO 49 (w2.setCell ⟨W.heap.size,j,none⟩ (.slice sA sn sc)) (W.heap.size+1) (ds++[⟨sA,sn,sc⟩]) ((List.range (j+1)).map fun c=>colL c l) from by
    rw[List.range_succ,List.map_append]
    exact((HD.out.below Af).set (a:=⟨W.heap.size,j,none⟩) (Nat.lt_succ_self _) _).snoc (p:=⟨sA,sn,sc⟩) (ownsRow_setCell_below (ho.lower (b':=W.heap.size+1) (by omega)) (a:=⟨W.heap.size,j,none⟩) (Nat.lt_succ_self _) _))
   have Aw:=Hd ((HBEL.out.trans (Af.mono (Nat.le_of_lt An))).setCell (p:=⟨W.heap.size,j,none⟩) (Q1 _) (.slice sA sn sc))
   have Aq:=HK.out
   clear Ag ho Af hv
   go_wp2_with fail
   go_roundw
   case rel=>exact⟨j+1,_,ds++[⟨sA,sn,sc⟩],by go_num,hlt,Au.out,Hd (by rw[List.length_set];exact HL.out),Ar,Ax,Aw.out⟩
   case measure=>simp[intOf]<;>omega
  ·obtain rfl:j=k:=by omega
   have HF:=Hd (show ps=ds by rw[HQ.out,Nat.sub_self,List.replicate_zero,List.append_nil])
   have Ap:=Hd (Ae.own_at HL.out HF.out)
   have Ak:=Hd (HD.out.lower (show W.heap.size<=W.heap.size+1 by omega))
   clear HD
   go_wp2
   go_ret
   exact RetLO.mk rfl Ap.out Ak.out Ab
end Go.P
namespace Go.MP
open RowKit VB VS VL CK RS SC MK RL
end Go.MP
namespace Go.P
open RowKit VB VarM BP VS VL SC CK Go.ST MK RS ZN MP RL
end Go.P

namespace Go.MK
open RowKit VB
section
variable {α:Type} {L:Lay α} {P:Program} {w:World}
theorem Dl8 {a:Act} {o:Oper} (s x:Operand) (t:TypeId) (Ak:o.op=Op.call { callee:=Callee.builtin Builtin.append,args:=#[s,x],argTypes:=#[t,t] }) (base:Nat) (e:TypeId) (Aa:Nat)
   (ht:P.underlying t=some (.slice e)) (Ae:(P.info? e).map (fun i=>(i.zero,i.size,i.bytes))=some (some L.zv,L.K,Aa))
   (v:Value) (l:List α) (hs:a.eval s=v) (Ad:OwnK L e w base v l) (B:Nat) (ad:Addr) (n c:Nat) (m:List α) (hx:a.eval x=.slice (some ad) n c) (hr:RdK L w B (.slice (some ad) n c) m)
   (Af:l.length+m.length<=maxLen) (Ac:(l.length+m.length)*Aa<=140737488355328) (Ab:base<=w.heap.size) {K:Act->World->Prop} {Q:Exit->Act->World->Prop}
   (hK:∀v' w',OwnK L e w' base v' (l++m)->Below base w w'->w.grownBy w' v.ownBlock->(v'.ownBlock=v.ownBlock\/v'.ownBlock=some w.heap.size)->K (a.put o.dst v') w'):Oper.wp P o a w K Q:=by
 obtain⟨i,hi,hz,Aj,Ai⟩:=info_parts Ae
 obtain⟨A,c',hv,hc,hm,Ah⟩:=id hr
 cases hv
 obtain⟨v',w',Ag,r1,r2,_,r4⟩:=run_append_own_at (P:=P) w base t o.type e i L.zv L.K Aa ht hi hz Aj Ai zsize L.pos v l.length (Ad6 L l) Ad ad m.length c (Ad6 L m) (Ah3 m) hr.cells (Bq1 m) Af Ac Ab
 unfold Oper.wp
 simp[execOp,Ak,resolve,invoke,builtin,hs,hx,Ag,Result.andThen]
 refine hK v' w' ?_ ((Q2 _ _).grown r2 Ab (fun b hb=>(OwnK.lt Ad b hb).1)) r2 r4
 unfold OwnK
 rw[Q5,Bq2];exact r1
theorem Cy5 {Ag:Array Oper} {o:Oper} {a:Act} {K:Act->World->Prop} {Q:Exit->Act->World->Prop} {E:Prop} (hg:o.guard=none) (s x:Operand) (t:TypeId)
   (Ah:o.op=Op.call { callee:=Callee.builtin Builtin.append,args:=#[s,x],argTypes:=#[t,t] }) (base:Nat) (e:TypeId) (Aa:Nat) (ht:P.underlying t=some (.slice e)) (Ac:(P.info? e).map (fun i=>(i.zero,i.size,i.bytes))=some (some L.zv,L.K,Aa))
   (v:Value) (l:List α) (hs:a.eval s=v) (Af:OwnK L e w base v l) (B:Nat) (ad:Addr) (n c:Nat) (m:List α) (hx:a.eval x=.slice (some ad) n c) (hr:RdK L w B (.slice (some ad) n c) m)
   (Ae:l.length+m.length<=maxLen) (Ab:(l.length+m.length)*Aa<=140737488355328) (Ad:base<=w.heap.size)
   (hK:∀v' w',OwnK L e w' base v' (l++m)->Below base w w'->w.grownBy w' v.ownBlock->(v'.ownBlock=v.ownBlock\/v'.ownBlock=some w.heap.size)->K (a.put o.dst v') w'):
   if Region.wanted o (yielded Ag a.tmps)=true then Oper.wp P o a w K Q else E:=by
 have hw:Region.wanted o (yielded Ag a.tmps)=true:=by simp[Region.wanted,hg]
 rw[if_pos hw]
 exact Dl8 s x t Ah base e Aa ht Ac v l hs Af B ad n c m hx hr Ae Ab Ad hK
end
end Go.MK
namespace Go.MP
open RowKit VB VarM VS VL CK RS SC MK ZN
def ApartR(ps:List Rs):Prop:=∀(i j:Nat)(p q:Rs),i≠j->ps[i]?=some p->ps[j]?=some q->p.row.val.ownBlock=none\/p.row.val.ownBlock≠q.row.val.ownBlock
structure Grid(eR eV:TypeId)(w:World)(b g c:Nat)(ps:List Rs)(l:List Rc):Prop where
 row:RowK recL eR w b g c ps
 deep:DeepO eV w b ps l
 apart:ApartR ps
section
variable {eR eV:TypeId} {w w' w1:World} {b g c i:Nat} {ps:List Rs} {l:List Rc} {p:Rs} {r:Rc} {xs:List Vl} {vv:Value}
theorem Grid.below(h:Grid eR eV w b g c ps l)(hb:Below w.heap.size w w'):Grid eR eV w' b g c ps l:=⟨h.row.below hb,h.deep.below hb,h.apart⟩
theorem Grid.alloc(h:Grid eR eV w b g c ps l)(o:Obj):Grid eR eV (w.alloc o) b g c ps l:=h.below ((Q2 _ _).alloc (Q1 _) o)
theorem Grid.own(h:Grid eR eV w b g c ps l):OwnRs eR eV w b (.slice (some ⟨g,0,none⟩) ps.length c) l:=⟨ps,h.row,h.deep⟩
theorem Grid.len(h:Grid eR eV w b g c ps l):ps.length=l.length:=h.deep.1
theorem Grid.lt(h:Grid eR eV w b g c ps l):b<=g/\g<w.heap.size:=h.row.lt
def Cl9(vv:Value)(ps:List Rs):Prop:=∀(i:Nat)(p:Rs),ps[i]?=some p->vv.ownBlock=none\/vv.ownBlock≠p.row.val.ownBlock
theorem Eq0{bv:Nat}(h:Grid eR eV w b g c ps l)(hw:w.heap.size<=bv)(ho:OwnL eV w1 bv vv xs):Cl9 vv ps:=fun i p hp=>by
 cases hv:vv.ownBlock with
 | none=>exact .inl rfl
 | some k=>
   right
   intro e
   have h1:=(OwnL.lt ho k hv).1
   have hi:i<l.length:=by rw[←h.len];exact(List.getElem?_eq_some_iff.1 hp).1
   have h2:=(OwnL.lt (h.deep.2 i p _ hp (Q7 hi)).2 k e.symm).2
   omega
theorem Grid.push {x:Vl} {A:Option Addr} {n k:Nat} (he:eR≠eV) (h:Grid eR eV w1 b g c ps l) (hp:ps[i]?=some p) (hr:l[i]?=some r) (ho:OwnL eV w' b (.slice A n k) (r.row++[x])) (hg:w1.grownBy w' p.row.val.ownBlock)
   (Ag:(Value.slice A n k).ownBlock=p.row.val.ownBlock\/(Value.slice A n k).ownBlock=some w1.heap.size):
   Grid eR eV (w'.setCell ⟨g,i*2+1,none⟩ (.slice A n k)) b g c (ps.set i ⟨p.seq,⟨A,n,k⟩⟩) (l.set i ⟨r.seq,r.row++[x]⟩):=by
 have hd:=h.deep.2 i p r hp hr
 have Aa:RowK recL eR w' b g c ps:=OwnK.keep h.row hg (own_apart h.row hd.2 he)
 have Ac:i<ps.length:=(List.getElem?_eq_some_iff.1 hp).1
 have Ad:(Value.slice A n k).ownBlock=none\/(Value.slice A n k).ownBlock≠some g:=own_apart ho Aa (fun e=>he e.symm)
 have Af:∀(j:Nat)(q:Rs),ps[j]?=some q->∀k',q.row.val.ownBlock=some k'->k'<w1.heap.size:=fun j q hq k' hk=>by
  have hj:j<l.length:=by rw[←h.len];exact(List.getElem?_eq_some_iff.1 hq).1
  exact(OwnL.lt (h.deep.2 j q _ hq (Q7 hj)).2 k' hk).2
 have Ab:∀(j:Nat)(q:Rs),j≠i->ps[j]?=some q->q.row.val.ownBlock=none\/q.row.val.ownBlock≠(Value.slice A n k).ownBlock:=fun j q hj hq=>by
  rcases Ag with e | e
  ·rw[e];exact h.apart j i q p hj hq hp
  ·cases hk:q.row.val.ownBlock with
   | none=>exact .inl rfl
   | some k'=>
     right;rw[e];intro e2
     have:=Af j q hq k' hk
     have:=Option.some.inj e2
     omega
 refine⟨Aa.store i 1 (.slice A n k) hp (by decide) rfl,⟨by rw[List.length_set,List.length_set];exact h.len,fun j q s hq hs=>?_⟩,fun j1 j2 q1 q2 hne h1 h2=>?_⟩
 ·by_cases hj:j=i
  ·subst hj
   rw[List.getElem?_set_self Ac] at hq
   rw[List.getElem?_set_self (by rw[←h.len];exact Ac)] at hs
   cases hq;cases hs
   refine⟨hd.1,?_⟩
   rcases Ad with e | e
   ·rcases ho.2 with⟨hv,hn⟩ | ⟨g',_,_,hv,_⟩
    ·exact⟨ho.1,.inl ⟨hv,hn⟩⟩
    ·cases hv;cases e
   ·exact ownsRow_setCell_other ho (a:=⟨g,j*2+1,none⟩) e _
  ·rw[List.getElem?_set_ne (fun e=>hj e.symm)] at hq hs
   have Ae:=h.deep.2 j q s hq hs
   refine⟨Ae.1,?_⟩
   have hk:=Ae.2.keep hg (h.apart j i q p hj hq hp)
   rcases own_apart hk Aa (fun e=>he e.symm) with e | e
   ·rcases hk.2 with⟨hv,hn⟩ | ⟨g',_,_,hv,_⟩
    ·exact⟨hk.1,.inl ⟨hv,hn⟩⟩
    ·rw[hv] at e;cases e
   ·exact ownsRow_setCell_other hk (a:=⟨g,i*2+1,none⟩) e _
 ·by_cases e1:j1=i
  ·subst e1
   rw[List.getElem?_set_self Ac] at h1
   rw[List.getElem?_set_ne hne] at h2
   cases h1
   have:=Ab j2 q2 (fun e=>hne e.symm) h2
   rcases this with e | e
   ·show(Value.slice A n k).ownBlock=none\/(Value.slice A n k).ownBlock≠q2.row.val.ownBlock
    rw[e]
    cases(Value.slice A n k).ownBlock with
    | none=>exact .inl rfl
    | some _=>exact .inr (by simp)
   ·exact .inr fun e'=>e e'.symm
  ·rw[List.getElem?_set_ne (fun e=>e1 e.symm)] at h1
   by_cases e2:j2=i
   ·subst e2
    rw[List.getElem?_set_self Ac] at h2
    cases h2
    exact Ab j1 q1 e1 h1
   ·rw[List.getElem?_set_ne (fun e=>e2 e.symm)] at h2
    exact h.apart j1 j2 q1 q2 hne h1 h2
theorem Grid.seqs{q:Int}(he:eR≠eV)(h:Grid eR eV w b g c ps l)(hp:ps[i]?=some p)(hr:l[i]?=some r):
   Grid eR eV (w.setCell ⟨g,i*2,none⟩ (.int .i64 q)) b g c (ps.set i ⟨q,p.row⟩) (l.set i ⟨q,r.row⟩):=by
 have Ab:i<ps.length:=(List.getElem?_eq_some_iff.1 hp).1
 have Aa:∀{vx:Value}{ys:List Vl},OwnL eV w b vx ys->OwnL eV (w.setCell ⟨g,i*2,none⟩ (.int .i64 q)) b vx ys:=fun{vx ys}hk=>by
  rcases own_apart hk h.row (fun e=>he e.symm) with e | e
  ·rcases hk.2 with⟨hv,hn⟩ | ⟨g',_,_,hv,_⟩
   ·exact⟨hk.1,.inl ⟨hv,hn⟩⟩
   ·rw[hv] at e;cases e
  ·exact ownsRow_setCell_other hk (a:=⟨g,i*2,none⟩) e _
 refine⟨h.row.store i 0 (.int .i64 q) hp (by decide) rfl,⟨by rw[List.length_set,List.length_set];exact h.len,fun j q' s hq hs=>?_⟩,fun j1 j2 q1 q2 hne h1 h2=>?_⟩
 ·by_cases hj:j=i
  ·subst hj
   rw[List.getElem?_set_self Ab] at hq
   rw[List.getElem?_set_self (by rw[←h.len];exact Ab)] at hs
   cases hq;cases hs
   exact⟨rfl,Aa (h.deep.2 j p r hp hr).2⟩
  ·rw[List.getElem?_set_ne (fun e=>hj e.symm)] at hq hs
   exact⟨(h.deep.2 j q' s hq hs).1,Aa (h.deep.2 j q' s hq hs).2⟩
 ·have Ac:∀(j:Nat)(q':Rs),(ps.set i ⟨q,p.row⟩)[j]?=some q'->∃q'',ps[j]?=some q''/\q''.row=q'.row:=fun j q' hq=>by
    by_cases e:j=i
    ·subst e
     rw[List.getElem?_set_self Ab] at hq
     cases hq
     exact⟨p,hp,rfl⟩
    ·rw[List.getElem?_set_ne (fun e'=>e e'.symm)] at hq
     exact⟨q',hq,rfl⟩
  obtain⟨a1,b1,c1⟩:=Ac j1 q1 h1
  obtain⟨a2,b2,c2⟩:=Ac j2 q2 h2
  rw[←c1,←c2]
  exact h.apart j1 j2 a1 a2 hne b1 b2
theorem Eb3 {A:Option Addr} {n k bv:Nat} (he:eR≠eV) (h:Grid eR eV w1 b g c ps l) (hp:ps[i]?=some p) (hv:OwnL eV w1 bv vv xs) (ha:Cl9 vv ps) (hg:w1.grownBy w' p.row.val.ownBlock) (hr:l[i]?=some r)
   (Ad:(Value.slice A n k).ownBlock=p.row.val.ownBlock\/(Value.slice A n k).ownBlock=some w1.heap.size):
   OwnL eV (w'.setCell ⟨g,i*2+1,none⟩ (.slice A n k)) bv vv xs/\Cl9 vv (ps.set i ⟨p.seq,⟨A,n,k⟩⟩):=by
 have Ac:i<ps.length:=(List.getElem?_eq_some_iff.1 hp).1
 have hk:=hv.keep hg (ha i p hp)
 have Ab:RowK recL eR w' b g c ps:=OwnK.keep h.row hg (own_apart h.row (h.deep.2 i p r hp hr).2 he)
 refine⟨?_,fun j q hq=>?_⟩
 ·rcases own_apart hk Ab (fun e=>he e.symm) with e | e
  ·rcases hk.2 with⟨Aa,hn⟩ | ⟨g',_,_,Aa,_⟩
   ·exact⟨hk.1,.inl ⟨Aa,hn⟩⟩
   ·rw[Aa] at e;cases e
  ·exact ownsRow_setCell_other hk (a:=⟨g,i*2+1,none⟩) e _
 ·by_cases e:j=i
  ·subst e
   rw[List.getElem?_set_self Ac] at hq
   cases hq
   show vv.ownBlock=none\/vv.ownBlock≠(Value.slice A n k).ownBlock
   rcases Ad with e | e
   ·rw[e];exact ha j p hp
   ·cases Aa:vv.ownBlock with
    | none=>exact .inl rfl
    | some k'=>
      right;rw[e];intro e2
      have:=(OwnL.lt hv k' Aa).2
      have:=Option.some.inj e2
      omega
  ·rw[List.getElem?_set_ne (fun e'=>e e'.symm)] at hq
   exact ha j q hq
theorem Eb2{q:Int}{bv:Nat}(he:eR≠eV)(h:Grid eR eV w b g c ps l)(hp:ps[i]?=some p)(hv:OwnL eV w bv vv xs)(ha:Cl9 vv ps):
   OwnL eV (w.setCell ⟨g,i*2,none⟩ (.int .i64 q)) bv vv xs/\Cl9 vv (ps.set i ⟨q,p.row⟩):=by
 have Ab:i<ps.length:=(List.getElem?_eq_some_iff.1 hp).1
 refine⟨?_,fun j q' hq=>?_⟩
 ·rcases own_apart hv h.row (fun e=>he e.symm) with e | e
  ·rcases hv.2 with⟨Aa,hn⟩ | ⟨g',_,_,Aa,_⟩
   ·exact⟨hv.1,.inl ⟨Aa,hn⟩⟩
   ·rw[Aa] at e;cases e
  ·exact ownsRow_setCell_other hv (a:=⟨g,i*2,none⟩) e _
 ·by_cases e:j=i
  ·subst e
   rw[List.getElem?_set_self Ab] at hq
   cases hq
   exact ha j p hp
  ·rw[List.getElem?_set_ne (fun e'=>e e'.symm)] at hq
   exact ha j q' hq
theorem Grid.at(h:Grid eR eV w b g c ps l)(hi:i<l.length):∃p,ps[i]?=some p/\p.seq=(l[i]).seq/\OwnL eV w b p.row.val (l[i]).row/\w.cell? ⟨g,i*2,none⟩=some (.int .i64 (l[i]).seq)/\w.cell? ⟨g,i*2+1,none⟩=some p.row.val:=by
 have Aa:i<ps.length:=by rw[h.len];exact hi
 have hp:ps[i]?=some ps[i]:=Q7 Aa
 have hd:=h.deep.2 i _ _ hp (Q7 hi)
 refine⟨ps[i],hp,hd.1,hd.2,?_,h.row.at hp 1 rfl⟩
 have:=h.row.at hp 0 rfl
 rw[←hd.1]
 exact this
end
def Fh9(m i:Nat)(r:Rc)(x:Vl):Rc:=if i<m then⟨r.seq,r.row++[x]⟩ else⟨x.n,r.row⟩
def Ce6(m i:Nat)(l:List Rc)(xs:List Vl)(j:Nat):List Rc:=(List.range l.length).map fun k=>if k<j then Fh9 m i (l.getD k rc0) (xs.getD k vl0) else l.getD k rc0
theorem Ao2(m i:Nat)(l:List Rc)(xs:List Vl)(j:Nat):(Ce6 m i l xs j).length=l.length:=by unfold Ce6;rw[List.length_map,List.length_range]
theorem Ao3{m i:Nat}{l:List Rc}{xs:List Vl}{j k:Nat}(hk:k<l.length):(Ce6 m i l xs j)[k]?=some (if k<j then Fh9 m i (l.getD k rc0) (xs.getD k vl0) else l.getD k rc0):=by
 unfold Ce6;rw[List.getElem?_map,List.getElem?_range hk];rfl
theorem Dr0(m i:Nat)(l:List Rc)(xs:List Vl):Ce6 m i l xs 0=l:=by
 refine List.ext_getElem? fun k=>?_
 by_cases hk:k<l.length
 ·rw[Ao3 hk,if_neg (Nat.not_lt_zero _),List.getD_eq_getElem?_getD,Q7 hk];rfl
 ·rw[List.getElem?_eq_none (by rw[Ao2];omega),List.getElem?_eq_none (by omega)]
theorem Dr1{m i:Nat}{l:List Rc}{xs:List Vl}{j:Nat}{r:Rc}{x:Vl}(hj:j<l.length)(hr:(Ce6 m i l xs j)[j]?=some r)(hx:xs[j]?=some x):Ce6 m i l xs (j+1)=(Ce6 m i l xs j).set j (Fh9 m i r x):=by
 rw[Ao3 hj,if_neg (Nat.lt_irrefl _)] at hr
 cases hr
 refine List.ext_getElem? fun k=>?_
 by_cases hk:k<l.length
 ·by_cases e:k=j
  ·subst e
   rw[List.getElem?_set_self (by rw[Ao2];exact hj),Ao3 hk,if_pos (Nat.lt_succ_self _),List.getD_eq_getElem?_getD (l:=xs),hx];rfl
  ·rw[List.getElem?_set_ne (fun h=>e h.symm),Ao3 hk,Ao3 hk]
   by_cases h2:k<j
   ·rw[if_pos h2,if_pos (by omega)]
   ·rw[if_neg h2,if_neg (by omega)]
 ·rw[List.getElem?_eq_none (by rw[Ao2];omega),List.getElem?_eq_none (by rw[List.length_set,Ao2];omega)]
def Fh3(cs:List Col)(file:ByteArray)(o:Opn)(i n:Nat):Rc:=⟨if cs.length<i then((At8 cs file o cs.length).1.getD n vl0).n else 0,Cz5 cs file o (min i cs.length) n⟩
def Ax6(cs:List Col)(file:ByteArray)(o:Opn)(i:Nat):List Rc:=(List.range o.inf.rows).map (Fh3 cs file o i)
theorem Al1(cs:List Col)(file:ByteArray)(o:Opn)(i:Nat):(Ax6 cs file o i).length=o.inf.rows:=by unfold Ax6;rw[List.length_map,List.length_range]
theorem Bh2{cs:List Col}{file:ByteArray}{o:Opn}{i n:Nat}(h:n<o.inf.rows):(Ax6 cs file o i)[n]?=some (Fh3 cs file o i n):=by unfold Ax6;rw[List.getElem?_map,List.getElem?_range h];rfl
theorem Cz7(cs:List Col)(file:ByteArray)(o:Opn):Ax6 cs file o 0=List.replicate o.inf.rows rc0:=by
 refine List.ext_getElem? fun n=>?_
 by_cases hn:n<o.inf.rows
 ·rw[Bh2 hn,List.getElem?_replicate,if_pos hn]
  unfold Fh3 Cz5
  rw[if_neg (Nat.not_lt_zero _),Nat.zero_min];rfl
 ·rw[List.getElem?_eq_none (by rw[Al1];omega),List.getElem?_eq_none (by rw[List.length_replicate];omega)]
theorem Cz9(cs:List Col)(file:ByteArray)(o:Opn):Ax6 cs file o (cs.length+1)=Am0 cs file o:=by
 unfold Ax6 Am0 Fh3 recD
 refine List.map_congr_left fun n _=>?_
 rw[if_pos (Nat.lt_succ_self _),Nat.min_eq_right (Nat.le_succ _)]
theorem Cz8{cs:List Col}{file:ByteArray}{o:Opn}{i:Nat}(hi:i<=cs.length):Ce6 cs.length i (Ax6 cs file o i) (At8 cs file o i).1 o.inf.rows=Ax6 cs file o (i+1):=by
 refine List.ext_getElem? fun n=>?_
 by_cases hn:n<o.inf.rows
 ·rw[Ao3 (by rw[Al1];exact hn),if_pos hn,Bh2 hn,List.getD_eq_getElem?_getD,Bh2 hn]
  simp only[Option.getD_some]
  congr 1
  unfold Fh9 Fh3
  by_cases h:i<cs.length
  ·rw[if_pos h,if_neg (show ¬cs.length<i by omega),if_neg (show ¬cs.length<i+1 by omega),Nat.min_eq_left (show i<=cs.length by omega),Nat.min_eq_left (show i+1<=cs.length by omega)]
   unfold Cz5
   rw[List.range_succ,List.map_append];rfl
  ·obtain rfl:i=cs.length:=by omega
   rw[if_neg h,if_pos (Nat.lt_succ_self _),Nat.min_self,Nat.min_eq_right (Nat.le_succ _)]
 ·rw[List.getElem?_eq_none (by rw[Ao2,Al1];omega),List.getElem?_eq_none (by rw[Al1];omega)]
end Go.MP

namespace Go.MP
open RowKit VB VarM VS VL SC CK Go.ST MK RS ZN
theorem VarC.grown{w w':World}{b:Nat}{vs:List Value}{row:Option Nat}(h:VarC w b vs)(hg:w.grownBy w' row)(hn:some b≠row):VarC w' b vs:=
 ⟨fun k u hu=>by rw[World.cell?_of_block (w:=w) (a:=⟨b,k,none⟩) (hg.block b h.lt hn)];exact h.c k u hu,
  fun k hk=>by rw[World.frozen?_of_block (w:=w) (a:=⟨b,k,none⟩) (hg.block b h.lt hn)];exact h.fr k hk,Nat.lt_of_lt_of_le h.lt hg.size⟩
def Dg3(k:Nat)(ps:List Rs):Prop:=∀(i:Nat)(p:Rs),ps[i]?=some p->p.row.val.ownBlock≠some k
section
variable {eR eV:TypeId} {w w' w1:World} {b g c i k m:Nat} {ps:List Rs} {l:List Rc} {p:Rs} {r:Rc} {xs:List Vl} {x:Vl}
theorem Grid.away(h:Grid eR eV w b g c ps l)(hk:w.heap.size<=k):Dg3 k ps:=fun i p hp e=>by
 have hi:i<l.length:=by rw[←h.len];exact(List.getElem?_eq_some_iff.1 hp).1
 have:=(OwnL.lt (h.deep.2 i p _ hp (Q7 hi)).2 k e).2
 omega
theorem Df8 {A:Option Addr} {n q:Nat} (ha:Dg3 k ps) (hp:ps[i]?=some p) (hk:k<w1.heap.size)
   (Ab:(Value.slice A n q).ownBlock=p.row.val.ownBlock\/(Value.slice A n q).ownBlock=some w1.heap.size):Dg3 k (ps.set i ⟨p.seq,⟨A,n,q⟩⟩):=fun j u hu e=>by
 have Aa:i<ps.length:=(List.getElem?_eq_some_iff.1 hp).1
 by_cases hj:j=i
 ·subst hj
  rw[List.getElem?_set_self Aa] at hu
  cases hu
  rcases Ab with h | h
  ·exact ha j p hp (h.symm.trans e)
  ·have h1:=h.symm.trans e
   have:=Option.some.inj h1
   omega
 ·rw[List.getElem?_set_ne (fun e=>hj e.symm)] at hu
  exact ha j u hu e
theorem Df7{q:Int}(ha:Dg3 k ps)(hp:ps[i]?=some p):Dg3 k (ps.set i ⟨q,p.row⟩):=fun j u hu e=>by
 have Aa:i<ps.length:=(List.getElem?_eq_some_iff.1 hp).1
 by_cases hj:j=i
 ·subst hj
  rw[List.getElem?_set_self Aa] at hu
  cases hu
  exact ha j p hp e
 ·rw[List.getElem?_set_ne (fun e=>hj e.symm)] at hu
  exact ha j u hu e
theorem Ei2{j:Nat}(h:(Ce6 m i l xs j)[j]?=some r):r∈l:=by
 have hj:j<l.length:=by have:=(List.getElem?_eq_some_iff.1 h).1;rwa [Ao2] at this
 rw[Ao3 hj,if_neg (Nat.lt_irrefl _)] at h
 cases h
 rw[List.getD_eq_getElem?_getD,Q7 hj]
 exact List.getElem_mem hj
theorem Eq5(h:i<m)(r:Rc)(x:Vl):Fh9 m i r x=⟨r.seq,r.row++[x]⟩:=if_pos h
theorem Eq4(h:¬i<m)(r:Rc)(x:Vl):Fh9 m i r x=⟨x.n,r.row⟩:=if_neg h
end
def AddP(eR eV:TypeId)(b g c m i:Nat)(l:List Rc)(xs:List Vl)(W:World):Ending->World->Prop:=fun en w'=>en=.returned (.tuple #[])/\∃ps,Grid eR eV w' b g c ps (Ce6 m i l xs l.length)/\Below b W w'
end Go.MP
namespace Go.P
open RowKit VB VarM BP VS VL SC CK Go.ST MK RS ZN MP
theorem Dg2 (A:Option Addr) (m cc:Nat) (key:Int) (g c n i:Nat) (vv:Value) (xs:List Vl) (l:List Rc) (ps:List Rs) (b bv:Nat) (W:World) (hG:Grid 67 49 W b g c ps l) (hn:l.length=n) (hv:OwnL 49 W bv vv xs) (ha:Cl9 vv ps) (hx:xs.length=n)
   (Ag:∀r∈l,r.row.length<=12) (hm:m<=12) (Ce:n<=1024) (Cd:n<=c):
   Calls Tryz.prog 64 #[.agg #[.slice A m cc,.int .i64 key],.slice (some ⟨g,0,none⟩) n c,.int .i64 (i:Int),vv] W (AddP 67 49 b g c m i l xs W):=by
 obtain⟨vA,vc,n',rfl,Cc,-,-⟩:=hv.read.bds
 obtain rfl:n'=n:=by omega
 have Bs:=hG.lt
 have hS:=VarC.new W [.slice A m cc,.int .i64 key] 24
 have Bb:=(Q2 b W).alloc (by omega) (.cells #[.slice A m cc,.int .i64 key] 24)
 have Bh:=hG.away (k:=W.heap.size) (Q1 _)
 have Aw:=hG.alloc (.cells #[.slice A m cc,.int .i64 key] 24)
 have Bc:=hv.alloc (.cells #[.slice A m cc,.int .i64 key] 24)
 change VarC (W.alloc (.cells #[.slice A m cc,.int .i64 key] 24)) _ _ at hS
 obtain⟨W1,Bx⟩:∃W1,W.alloc (.cells #[.slice A m cc,.int .i64 key] 24)=W1:=⟨_,rfl⟩
 rw[Bx] at hS Bb Aw Bc
 have HS:=Hd hS;have HB0:=Hd Bb;have HA0:=Hd Bh;have HG0:=Hd Aw;have HV0:=Hd Bc;have HAW:=Hd ha
 have Bq:=Hd Ag;have HLN:=Hd hn;have HXN:=Hd hx
 obtain⟨K,hK⟩:∃K,W.heap.size=K:=⟨_,rfl⟩
 rw[hK] at HS HA0 Bs
 have Ci:(m:Int)<=12:=by omega
 clear hS Bb Bh Aw Bc hG hv ha Ag hx Cc
 go_enter Tryz.func64,Tryz.ntmps64
 go_wp2_with fail
 go_loopw[8,9,12] (fun _ _ iv wr=>∃(j:Nat)(qs:List Rs),iv=.int .i64 j/\j<=n'/\Hid (Grid 67 49 wr b g c qs (Ce6 m i l xs j))/\Hid (OwnL 49 wr bv (.slice vA n' vc) xs)/\Hid (Cl9 (.slice vA n' vc) qs)/\Hid (Dg3 K qs)/\Hid (VarC wr K [.slice A m cc,.int .i64 key])/\Below b W wr) (fun _ _ iv _=>n'-(intOf iv).toNat)
 case atStart=>exact⟨0,ps,rfl,Nat.zero_le _,Hd (by rw[Dr0];exact HG0.out),HV0,HAW,HA0,HS,HB0.out⟩
 case round=>
  obtain⟨j,qs,rfl,hj,HG,HV,HA,HK,HS,Aa⟩:=hrel
  by_cases hlt:j<n'
  case neg=>
   obtain rfl:j=n':=by omega
   have Cb:decide ((j:Int)<(j:Int))=false:=Q3 (by omega)
   go_wp2
   refine bodyPost_ret (v:=.tuple #[]) (by simp[results,Tryz.results64,go_sem]) rfl ?_
   exact⟨rfl,qs,by rw[HLN.out];exact HG.out,Aa⟩
  have Cb:decide ((j:Int)<(n':Int))=true:=Q4 (by omega)
  have Bt:decide (j<n')=true:=Q4 hlt
  have Bf:j<(Ce6 m i l xs j).length:=by rw[Ao2,HLN.out];exact hlt
  obtain⟨p,hp,Be,As,k0,k1⟩:=HG.out.at Bf
  have hr:(Ce6 m i l xs j)[j]?=some (Ce6 m i l xs j)[j]:=Q7 Bf
  have Al:xs[j]?=some (xs[j]'(by rw[HXN.out];exact hlt)):=Q7 _
  have Ba:=Hd (Bq.out _ (Ei2 hr))
  have Ak:=Dr1 (m:=m) (i:=i) (by rw[HLN.out];exact hlt) hr Al
  obtain⟨ad,Bv,Bp,q0,q1,q2⟩:=HV.out.read.at Al
  generalize xs[j]'_=x at Al Ak q0 q1 q2
  generalize (Ce6 m i l xs j)[j]=r at hr Ak Be As k0 Ba
  obtain⟨xb,xn,xt⟩:=x
  simp only at q0 q1 q2
  subst Bv
  have Bj:=Hd Ak;have HRJ:=Hd hr;have HPJ:=Hd hp;have HPO:=Hd As
  have Ad:=VarC.new wr [.bool xb,.int .i64 xn,.string xt] 49
  change VarC (wr.alloc (.cells #[.bool xb,.int .i64 xn,.string xt] 49)) _ _ at Ad
  have Ae:=(Q2 wr.heap.size wr).alloc (Q1 _) (.cells #[.bool xb,.int .i64 xn,.string xt] 49)
  have Cf:=Aa.size
  have Cg:=HS.out.lt
  have Aj:=HG.out.lt
  have Bz:=HG.out.row.frozen (j*2+1)
  have An:=HG.out.row.frozen (j*2)
  have s0:=(HS.out.step Ae).c 0 _ rfl
  have Bi:=(Ae.cell (p:=⟨g,j*2+1,none⟩) Aj.2).trans k1
  have Ca:=(Ae.cell (p:=⟨g,j*2,none⟩) Aj.2).trans k0
  have Bl:Below b W (wr.alloc (.cells #[.bool xb,.int .i64 xn,.string xt] 49)):=Aa.trans (Ae.mono (by omega))
  have Ab:=Hd (HG.out.alloc (.cells #[.bool xb,.int .i64 xn,.string xt] 49))
  have Ax:=Hd (HV.out.alloc (.cells #[.bool xb,.int .i64 xn,.string xt] 49))
  have Au:=Hd (HS.out.step Ae)
  have Az:=Hd Bl
  have Bo:(wr.alloc (.cells #[.bool xb,.int .i64 xn,.string xt] 49)).frozen? ⟨g,j*2+1,none⟩=false:=Ab.out.row.frozen (j*2+1)
  have Br:(wr.alloc (.cells #[.bool xb,.int .i64 xn,.string xt] 49)).frozen? ⟨g,j*2,none⟩=false:=Ab.out.row.frozen (j*2)
  have Bk:(wr.alloc (.cells #[.bool xb,.int .i64 xn,.string xt] 49)).heap.size=wr.heap.size+1:=by simp
  obtain⟨X,hX⟩:∃X,wr.alloc (.cells #[.bool xb,.int .i64 xn,.string xt] 49)=X:=⟨_,rfl⟩
  rw[hX] at Ad s0 Bi Ca Ab Ax Au Az Bo Br Bk
  obtain⟨pq,⟨pA,pn,pc⟩⟩:=p
  change X.cell? ⟨g,j*2+1,none⟩=some (.slice pA pn pc) at Bi
  have x0:=Ad.c 0 _ rfl
  have x1:=Ad.c 1 _ rfl
  have x2:=Ad.c 2 _ rfl
  have Ch:(j:Int)<(n':Int):=by omega
  clear Aa hr Al Ak hp Be As k0 k1 Bz An Bp Ae Bl Ad
  by_cases him:i<m
  case neg=>
   have By:decide ((i:Int)<(m:Int))=false:=Q3 (by omega)
   have Aq:decide (i<m)=false:=Q3 him
   have Ap:=Hd (Ab.out.seqs (q:=xn) (by decide) HPJ.out HRJ.out)
   have Ah:=Hd (Eb2 (q:=xn) (by decide) Ab.out HPJ.out Ax.out HA.out)
   have Ar:=Hd (Df7 (q:=xn) HK.out HPJ.out)
   have Ao:=Hd (Au.out.other (c:=g) (by have:=Ab.out.lt;omega) (j*2) (.int .i64 xn))
   have Ay:=Hd (Az.out.setCell (p:=⟨g,j*2,none⟩) Aj.1 (.int .i64 xn))
   have Bd:=Hd (Bj.out.trans (by rw[Eq4 him]))
   clear him
   go_wp2_with fail
   go_roundw
   case rel=>exact⟨j+1,_,by go_num,hlt,Hd (by rw[Bd.out];exact Ap.out),Hd Ah.out.1,Hd Ah.out.2,Ar,Ao,Ay.out⟩
   case measure=>simp[intOf];omega
  have By:decide ((i:Int)<(m:Int))=true:=Q4 (by omega)
  have Aq:decide (i<m)=true:=Q4 him
  have Bd:=Hd (Bj.out.trans (by rw[Eq5 him]))
  have Ai:=(Q2 X.heap.size X).alloc (Q1 _) (.cells #[.bool xb,.int .i64 xn,.string xt] 49)
  have Af:=Ai.drew
  have Ac:=Hd (Ab.out.below Af)
  have Bu:=Hd (Ax.out.below Af)
  have Bg:=Hd (Au.out.step Af)
  have Bn:=Hd (Az.out.trans (Af.mono (by omega)))
  have Bm:=Hd (show b<=((X.alloc (.cells #[.bool xb,.int .i64 xn,.string xt] 49)).drew).heap.size by have:=Af.size;omega)
  have Bw:=Hd (show RdK Go.MK.valL (X.alloc (.cells #[.bool xb,.int .i64 xn,.string xt] 49)).drew (wr.heap.size+2) (.slice (some ⟨wr.heap.size+1,0,none⟩) 1 1) [⟨xb,xn,xt⟩] from by
   have h:=(RdK.lit (L:=Go.MK.valL) X [⟨xb,xn,xt⟩] 1 49 (Q1 1) (by decide)).below (Q2 _ _).drew
   rw[Bk] at h
   exact h)
  clear him Ai Af
  go_wp2_with fail
  go_region_law(refine Cy5 (L:=Go.MK.valL) rfl (.tmp 28) (.tmp 30) 63 rfl b 49 32 Tryz.underlying63 Tryz.infVal (.slice pA pn pc) r.row rfl (Bo1 (Ac.out.deep.2 j _ _ HPJ.out HRJ.out).2) (wr.heap.size+2) ⟨wr.heap.size+1,0,none⟩ 1 1 [⟨xb,xn,xt⟩] rfl Bw.out (by have:=Ba.out;unfold maxLen;simp only[Q6,Q8];omega) (by have:=Ba.out;simp only[Q6,Q8];omega) Bm.out ?_;intro v' w' hown' hb' hg' hat';obtain⟨uA,un,uc,rfl⟩:=Bi1 (Do7 hown');have hrw':=OwnK.keep Ac.out.row hg' (own_apart Ac.out.row (Ac.out.deep.2 j _ _ HPJ.out HRJ.out).2 (by decide));have f1':w'.frozen? ⟨g,j*2+1,none⟩=false:=RowK.frozen hrw' (j*2+1);have k1':w'.cell? ⟨g,j*2+1,none⟩=some (.slice pA pn pc):=RowK.at hrw' HPJ.out 1 rfl;have hl':g<w'.heap.size:=(RowK.lt hrw').2)
  all_goals
   have Ap:=Hd (Ac.out.push (by decide) HPJ.out HRJ.out (Do7 hown') hg' hat')
   have Ah:=Hd (Eb3 (by decide) Ac.out HPJ.out Bu.out HA.out hg' HRJ.out hat')
   have Ar:=Hd (Df8 HK.out HPJ.out (by have:=Bm.out;have:=Ac.out.lt;have:=Bg.out.lt;omega) hat')
   have Ao:=Hd ((Bg.out.grown hg' (fun e=>HK.out j _ HPJ.out e.symm)).other (c:=g) (by have:=Ab.out.lt;omega) (j*2+1) (.slice uA un uc))
   have Ay:=Hd ((Bn.out.trans hb').setCell (p:=⟨g,j*2+1,none⟩) Aj.1 (.slice uA un uc))
   clear hown' hb' hg' hat' hrw' f1' k1' hl'
   go_wp2_with fail
   go_roundw
   case rel=>exact⟨j+1,_,by go_num,hlt,Hd (by rw[Bd.out];exact Ap.out),Hd Ah.out.1,Hd Ah.out.2,Ar,Ao,Ay.out⟩
   case measure=>simp[intOf];omega
end Go.P
