/- Texts of one part, joined. -/
import Derived.Test.YtnmlajmaffiigaaGreatDoorGw
import Derived.Test.YtnmlajmaffiigaaGreatDoorGb
import Derived.Laws.AppendOwnNone
import Derived.Deep.RegionWith
import Derived.Deep.CutRange
set_option linter.constructorNameAsVariable false
set_option maxRecDepth 100000
set_option maxHeartbeats 8000000
open Go Go.Proofs Go.Proofs.YtnmlajmaffiigaaGreatDoor Go.P
namespace Go.P
open RowKit VB VL ChangeShapes WideShapes ChangeAt
theorem Tryz.own:ownKnob Tryz.prog.godebug=none:=by kernel_rfl
theorem Tryz.laidOut:laidOutB Tryz.prog=true:=by kernel_rfl
section
variable {H:Type} {enc:TypeId×Value->H}
end
end Go.P
namespace Go.RS
open RowKit VB VS MK
end Go.RS
namespace Go.P
open RowKit VB VS MK RS ChangeShapes WideShapes ChangeAt Deep
section
variable {H:Type} {enc:TypeId×Value->H}
end
end Go.P

namespace Go.VL
open RowKit VB
theorem get_mem_int{l:List Int}{i:Nat}(h:i<l.length):l.getD i 0∈l:=by
 rw[List.getD_eq_getElem?_getD,Q7 h];exact List.getElem_mem h
structure Src(w0 w:World)(B g:Nat)(v:Value)(zl:List Int):Prop where
 below:Below B w0 w
 base:B<=g
 lt:g<w.heap.size
 c0:w.cell? ⟨g,0,none⟩=some v
 c1:∃i:Nat,w.cell? ⟨g,1,none⟩=some (.int .i64 (i:Int))/\i<=zl.length
 fr:w.frozen? ⟨g,1,none⟩=false
 rd:RdI .i64 w0 B v zl
 wf:∀z∈zl,(Lit.int .i64 z).wf=true
theorem Src.drew{w0 w:World}{B g:Nat}{v:Value}{zl:List Int}(h:Src w0 w B g v zl):Src w0 w.drew B g v zl:=
 ⟨h.below.drew,h.base,h.lt,h.c0,h.c1,h.fr,h.rd,h.wf⟩
theorem Src.drewN{w0 w:World}{B g:Nat}{v:Value}{zl:List Int}(k:Nat)(h:Src w0 w B g v zl):Src w0 (w.drewN k) B g v zl:=by
 induction k generalizing w with
 | zero=>exact h
 | succ k ih=>exact(ih h).drew
theorem drewN_cell(w:World)(k:Nat)(a:Addr):(w.drewN k).cell? a=w.cell? a:=by
 induction k generalizing w with
 | zero=>rfl
 | succ k ih=>exact ih w
theorem Src.alloc{w0 w:World}{B g:Nat}{v:Value}{zl:List Int}(h:Src w0 w B g v zl)(hB:B<=w.heap.size)(o:Obj):Src w0 (w.alloc o) B g v zl:=
 ⟨h.below.alloc hB o,h.base,by have:=h.lt;simp;omega,(World.cell?_alloc_past o g 0 h.lt).trans h.c0,
  let ⟨i,e,hi⟩:=h.c1;⟨i,(World.cell?_alloc_past o g 1 h.lt).trans e,hi⟩,(World.frozen?_alloc_past o g 1 h.lt).trans h.fr,h.rd,h.wf⟩
theorem Src.set{w0 w:World}{B g:Nat}{v:Value}{zl:List Int}(h:Src w0 w B g v zl)(i:Nat)(hi:i<=zl.length):Src w0 (w.setCell ⟨g,1,none⟩ (.int .i64 (i:Int))) B g v zl:=
 ⟨h.below.setCell h.base _,h.base,by rw[World.size_setCell];exact h.lt,(World.cell?_setCell_other _ _ _ _ (by simp)).trans h.c0,
  let ⟨_,e,_⟩:=h.c1;⟨i,World.cell?_setCell_same _ _ _ e,hi⟩,(World.frozen?_setCell _ _ _ _).trans h.fr,h.rd,h.wf⟩
theorem Src.size{w0 w:World}{B g:Nat}{v:Value}{zl:List Int}(h:Src w0 w B g v zl):B<=w.heap.size:=by have:=h.base;have:=h.lt;omega
theorem quiet6{P:Program}{f:FuncId}{args:Array Value}{w:World}{n:Nat}{v:Value}(h:Calls P f args (w.drewN n) (Ret v (w.drewN n))):
 Calls P f args (w.drewN n) fun e w''=>e=.returned v/\∃m,w''=w.drewN m:=h.mono fun _ _⟨he,hm⟩=>⟨he,n,hm.symm⟩
end Go.VL
namespace Go.P
open RowKit VB VL
end Go.P
namespace Go.P
open RowKit VB VL VarM
end Go.P
namespace Go.P
open RowKit VB VL VarM
end Go.P

namespace Go.SC
open RowKit VB VL
theorem Df1(w:World)(c:Col)(T:TypeId):∀(j:Nat)u,c.cells[j]?=some u->(w.alloc (.cells #[.string c.nm,.int .i64 c.ty,.int .i64 c.sc,.bool c.nu] T)).cell? ⟨w.heap.size,j,none⟩=some u:=by
 intro j u hj
 rw[World.cell?_alloc_new]
 simpa[Col.cells] using hj
theorem Df0(c:Col):∀u∈c.cells,u.oneCell'=true:=by
 intro u hu
 simp only[Col.cells,List.mem_cons,List.not_mem_nil,or_false] at hu
 rcases hu with rfl | rfl | rfl | rfl<;>rfl
theorem Ed2 {P:Program} {w:World} {Af:Array Oper} {Ad:List Oper} {o:Oper} {a:Act} {Q:Exit->Act->World->Prop} (Ak:o.guard=none) (s x:Operand) (t:TypeId)
   (ho:o.op=.call { callee:=.builtin .append,args:=#[s,x],argTypes:=#[t,t] })
   (base:Nat) (e:TypeId) (ht:P.underlying t=some (.slice e)) (Ac:(P.info? e).map (fun i=>(i.zero,i.size,i.bytes))=some (some col0.val,4,40))
   (v:Value) (cs:List Col) (hs:a.eval s=v) (Ab:OwnC e w base v cs)
   (g:Nat) (m:Nat) (c:Col) (hx:a.eval x=.slice (some ⟨g,0,none⟩) 1 m) (Ae:∀(j:Nat)u,c.cells[j]?=some u->w.cell? ⟨g,j,none⟩=some u)
   (Ag:cs.length<1000000) (Aa:base<=w.heap.size)
   (h:∀v' w',OwnC e w' base v' (cs++[c])->Below base w w'->wpList P Af Q Ad (a.put o.dst v') w'):wpList P Af Q (o::Ad) a w:=by
 obtain⟨i,hi,hz,Aj,Ah⟩:=info_parts Ac
 refine wpList_append_own w Ak s x t ho base e i col0.val 4 40 ht hi hz Aj Ah rfl (by decide) v cs.length (Ab2 cs) hs Ab ⟨g,0,none⟩ 1 m c.cells hx rfl ?_ (Df0 c) ?_ ?_ Aa ?_
 ·intro j u hj
  have e:((⟨g,0,none⟩:Addr).add j)=⟨g,j,none⟩:=by
   unfold Addr.add
   by_cases h0:j=0
   ·subst h0;rfl
   ·simp[h0]
  rw[e];exact Ae j u hj
 ·unfold maxLen;omega
 ·omega
 ·intro v' w' Ai hg _
  refine h v' w' ?_ ?_
  ·unfold OwnC
   rw[Cd0,Q5]
   show w'.ownsRow base e 4 v' (cs.length+1) (Ab2 cs++Ab2 [c])
   rw[show Ab2 [c]=c.cells from by unfold Ab2;simp]
   exact Ai
  ·exact(Q2 _ _).grown hg Aa (fun k hk=>(OwnC.lt Ab k hk).1)
end Go.SC
namespace Go.P
open RowKit VB VL SC
theorem Tryz.infCol:(Tryz.prog.info? 62).map (fun i=>(i.zero,i.size,i.bytes))=some (some col0.val,4,40):=by kernel_rfl
end Go.P
namespace Go.SC
open RowKit VB VL
structure But(g:Nat)(w w':World):Prop where
 os:w'.os=w.os
 tape:w'.tape=w.tape
 output:w'.output=w.output
 size:w'.heap.size=w.heap.size
 block:∀k,k≠g->w'.heap[k]?=w.heap[k]?
theorem But.refl(g:Nat)(w:World):But g w w:=⟨rfl,rfl,rfl,rfl,fun _ _=>rfl⟩
theorem But.drew{g:Nat}{a b:World}(h:But g a b):But g a b.drew:=⟨h.os,h.tape,h.output,h.size,h.block⟩
theorem But.drewN{g:Nat}{a b:World}(k:Nat)(h:But g a b):But g a (b.drewN k):=by
 induction k generalizing b with
 | zero=>exact h
 | succ k ih=>exact(ih h).drew
theorem But.set{g:Nat}{a b:World}(h:But g a b)(i:Nat)(x:Value):But g a (b.setCell ⟨g,i,none⟩ x):=
 ⟨h.os,h.tape,h.output,(World.size_setCell _ _ _).trans h.size,fun k hk=>(Below.heap_setCell _ _ _ _ hk).trans (h.block k hk)⟩
theorem But.below{g B:Nat}{a b w0:World}(h:But g a b)(h0:Below B w0 a)(hB:B<=g):Below B w0 b:=
 ⟨h.os.trans h0.os,h.tape.trans h0.tape,h.output.trans h0.output,by rw[h.size];exact h0.size,fun k hk=>(h.block k (by omega)).trans (h0.block k hk)⟩
theorem But.cell{g:Nat}{a b:World}(h:But g a b){p:Addr}(hp:p.block≠g):b.cell? p=a.cell? p:=World.cell?_of_block (h.block _ hp)
theorem But.frozen{g:Nat}{a b:World}(h:But g a b){p:Addr}(hp:p.block≠g):b.frozen? p=a.frozen? p:=World.frozen?_of_block (h.block _ hp)
theorem But.var2{g b:Nat}{a c:World}{x y:Value}(h:But g a c)(hv:Var2 a b x y)(hb:b≠g):Var2 c b x y:=
 ⟨(h.cell hb).trans hv.c0,(h.cell hb).trans hv.c1,(h.frozen hb).trans hv.f0,(h.frozen hb).trans hv.f1⟩
theorem But.var4{g b:Nat}{a c:World}{x y z u:Value}(h:But g a c)(hv:Var4F a b x y z u)(hb:b≠g):Var4F c b x y z u:=
 ⟨(h.cell hb).trans hv.c0,(h.cell hb).trans hv.c1,(h.cell hb).trans hv.c2,(h.cell hb).trans hv.c3,(h.frozen hb).trans hv.f0,(h.frozen hb).trans hv.f1,(h.frozen hb).trans hv.f2,(h.frozen hb).trans hv.f3⟩
theorem But.own{g:Nat}{a c:World}{e:TypeId}{base:Nat}{v:Value}{cs:List Col}(h:But g a c)(hv:OwnC e a base v cs)(hb:g<base):OwnC e c base v cs:=by
 refine World.ownsRow.kept (row:=some g) hv ⟨h.os,h.tape,h.output,by rw[h.size];exact Q1 _,fun k _ hk=>h.block k (fun e=>hk (by rw[e]))⟩ (.inr fun e=>?_)
 have:=(OwnC.lt hv g e).1
 omega
def GB(g:Nat)(a b:World):Prop:=a.grownBy b (some g)
theorem GB.drew(g:Nat)(w:World):GB g w w.drew:=⟨rfl,rfl,rfl,Q1 _,fun _ _ _=>rfl⟩
theorem GB.alloc0(g:Nat)(w:World)(o:Obj):GB g w (w.alloc o).drew:=
 have k:=(Q2 w.heap.size w).alloc (Q1 _) o
 ⟨k.os,k.tape,k.output,k.size,fun i hi _=>k.block i hi⟩
theorem GB.but{g:Nat}{a b c:World}(h:GB g a b)(k:But g b c):GB g a c:=
 ⟨k.os.trans h.os,k.tape.trans h.tape,k.output.trans h.output,by rw[k.size];exact h.size,fun i hi hne=>(k.block i (fun e=>hne (by rw[e]))).trans (h.block i hi hne)⟩
theorem GB.alloc{g:Nat}{a b:World}(h:GB g a b)(o:Obj):GB g a (b.alloc o):=
 have k:=(Q2 b.heap.size b).alloc (Q1 _) o
 ⟨k.os.trans h.os,k.tape.trans h.tape,k.output.trans h.output,Nat.le_trans h.size k.size,fun i hi hne=>(k.block i (Nat.lt_of_lt_of_le hi h.size)).trans (h.block i hi hne)⟩
theorem GB.set{g:Nat}{a b:World}(h:GB g a b){p:Addr}(hp:a.heap.size<=p.block)(x:Value):GB g a (b.setCell p x):=
 ⟨h.os,h.tape,h.output,by rw[World.size_setCell];exact h.size,fun i hi hne=>(Below.heap_setCell _ _ _ _ (by omega)).trans (h.block i hi hne)⟩
theorem GB.var2{g b:Nat}{a c:World}{x y:Value}(h:GB g a c)(hv:Var2 a b x y)(hb:b≠g):Var2 c b x y:=
 have k:∀i,c.cell? ⟨b,i,none⟩=a.cell? ⟨b,i,none⟩:=fun _=>World.cell?_of_block (h.block b hv.lt (fun e=>hb (Option.some.inj e)))
 have k2:∀i,c.frozen? ⟨b,i,none⟩=a.frozen? ⟨b,i,none⟩:=fun _=>World.frozen?_of_block (h.block b hv.lt (fun e=>hb (Option.some.inj e)))
 ⟨(k 0).trans hv.c0,(k 1).trans hv.c1,(k2 0).trans hv.f0,(k2 1).trans hv.f1⟩
theorem GB.own{g:Nat}{a c:World}{e:TypeId}{base:Nat}{v:Value}{cs:List Col}(h:GB g a c)(hv:OwnC e a base v cs)(hb:g<base):OwnC e c base v cs:=
 World.ownsRow.kept (row:=some g) hv h (.inr fun e=>by have:=(OwnC.lt hv g e).1;omega)
theorem GB.below{g B:Nat}{a b w0:World}(h:GB g a b)(h0:Below B w0 a)(hB:B<=g)(hs:B<=a.heap.size):Below B w0 b:=
 ⟨h.os.trans h0.os,h.tape.trans h0.tape,h.output.trans h0.output,Nat.le_trans h0.size h.size,fun k hk=>(h.block k (by omega) (fun e=>by cases e;omega)).trans (h0.block k hk)⟩
theorem But.set4{w w':World}{b:Nat}(h:But b w w')(x y z u:Value):But b w ((((w'.setCell ⟨b,0,none⟩ x).setCell ⟨b,1,none⟩ y).setCell ⟨b,2,none⟩ z).setCell ⟨b,3,none⟩ u):=(((h.set 0 x).set 1 y).set 2 z).set 3 u
theorem GB.set4{g b:Nat}{a c:World}(h:GB g a c)(hb:a.heap.size<=b)(x y z u:Value):GB g a ((((c.setCell ⟨b,0,none⟩ x).setCell ⟨b,1,none⟩ y).setCell ⟨b,2,none⟩ z).setCell ⟨b,3,none⟩ u):=
 (((h.set (p:=⟨b,0,none⟩) hb x).set (p:=⟨b,1,none⟩) hb y).set (p:=⟨b,2,none⟩) hb z).set (p:=⟨b,3,none⟩) hb u
theorem Var4F.set2{w:World}{b:Nat}{x y z u:Value}(h:Var4F w b x y z u)(z':Value):Var4F (w.setCell ⟨b,2,none⟩ z') b x y z' u:=by
 have k:∀(j:Nat),2≠j->(w.setCell ⟨b,2,none⟩ z').cell? ⟨b,j,none⟩=w.cell? ⟨b,j,none⟩:=fun j hij=>World.cell?_setCell_other _ _ _ _ (fun e=>hij (congrArg Addr.off e))
 refine⟨(k 0 (by decide)).trans h.c0,(k 1 (by decide)).trans h.c1,World.cell?_setCell_same _ _ _ h.c2,(k 3 (by decide)).trans h.c3,?_,?_,?_,?_⟩
 all_goals
  rw[World.frozen?_setCell]
  first | exact h.f0 | exact h.f1 | exact h.f2 | exact h.f3
theorem Var2.other2{w:World}{b c i:Nat}{x y u:Value}(h:Var2 w b x y)(hc:b≠c):Var2 (w.setCell ⟨c,i,none⟩ u) b x y:=by
 have hk:∀j:Nat,(⟨c,i,none⟩:Addr)≠⟨b,j,none⟩:=fun j e=>hc (congrArg Addr.block e).symm
 constructor
 ·rw[World.cell?_setCell_other _ _ _ _ (hk _)];exact h.c0
 ·rw[World.cell?_setCell_other _ _ _ _ (hk _)];exact h.c1
 ·rw[World.frozen?_setCell];exact h.f0
 ·rw[World.frozen?_setCell];exact h.f1
theorem Var2.set00{w:World}{b:Nat}{x y:Value}(h:Var2 w b x y)(x':Value):Var2 (w.setCell ⟨b,0,none⟩ x') b x' y:=by
 constructor
 ·exact World.cell?_setCell_same _ _ _ h.c0
 ·rw[World.cell?_setCell_other _ _ _ _ (by simp)];exact h.c1
 ·rw[World.frozen?_setCell];exact h.f0
 ·rw[World.frozen?_setCell];exact h.f1
theorem Var2.set1s{w:World}{b:Nat}{x y:Value}(h:Var2 w b x y)(y':Value):Var2 (w.setCell ⟨b,1,none⟩ y') b x y':=by
 constructor
 ·rw[World.cell?_setCell_other _ _ _ _ (by simp)];exact h.c0
 ·exact World.cell?_setCell_same _ _ _ h.c1
 ·rw[World.frozen?_setCell];exact h.f0
 ·rw[World.frozen?_setCell];exact h.f1
theorem Var2.set01{w:World}{b:Nat}{x y:Value}(h:Var2 w b x y)(x' y':Value):Var2 ((w.setCell ⟨b,0,none⟩ x').setCell ⟨b,1,none⟩ y') b x' y':=(h.set00 x').set1s y'
def Sr(w:World)(g:Nat)(v:Value)(zl:List Int):Prop:=Src w w g g v zl
theorem Sr.alc{w:World}{g:Nat}{v:Value}{zl:List Int}(h:Sr w g v zl)(o:Obj):Sr (w.alloc o) g v zl:=by
 have h2:=Src.alloc h (Src.size h) o
 exact⟨Q2 _ _,h2.base,h2.lt,h2.c0,h2.c1,h2.fr,h2.rd.below h2.below,h2.wf⟩
theorem Sr.but{w w':World}{g c:Nat}{v:Value}{zl:List Int}(h:Sr w g v zl)(hb:But c w w')(hc:g<c):Sr w' g v zl:=
 ⟨Q2 _ _,Q1 _,by rw[hb.size];exact h.lt,(hb.cell (by show g≠c;omega)).trans h.c0,let ⟨i,e,hi⟩:=h.c1;⟨i,(hb.cell (by show g≠c;omega)).trans e,hi⟩,
  (hb.frozen (by show g≠c;omega)).trans h.fr,h.rd.below (hb.below (Q2 _ _) (by omega)),h.wf⟩
theorem Sr.below{w w':World}{g B:Nat}{v:Value}{zl:List Int}(h:Sr w g v zl)(hb:Below B w w')(hg:g<B):Sr w' g v zl:=
 ⟨Q2 _ _,Q1 _,Nat.lt_of_lt_of_le h.lt hb.size,(hb.cell hg).trans h.c0,let ⟨i,e,hi⟩:=h.c1;⟨i,(hb.cell hg).trans e,hi⟩,(hb.frozen hg).trans h.fr,h.rd.below (hb.mono (by omega)),h.wf⟩
def NxtP(w:World)(g:Nat)(v:Value)(zl:List Int)(n:Int):Ending->World->Prop:=fun e w'=>∃r:Nat,e=.returned (.int .i64 (r:Int))/\(r:Int)<n/\Sr w' g v zl/\But g w w'
theorem NxtP.mk'{w w':World}{g:Nat}{v:Value}{zl:List Int}{n r:Int}{x:Value}(hs:Sr w' g v zl)(hb:But g w w')(hx:x=.int .i64 r)(hp:0<=r/\r<n):NxtP w g v zl n (.returned x) w':=
 ⟨r.toNat,by rw[hx,Int.toNat_of_nonneg hp.1],by rw[Int.toNat_of_nonneg hp.1];exact hp.2,hs,hb⟩
def KAt(N:Nat)(cs:List Col):Prop:=∀i,i<cs.length->(cs.getD i col0).nm=str [UInt8.ofNat (97+(N-1-i))]/\okT (cs.getD i col0).ty=true/\0<=(cs.getD i col0).sc/\(cs.getD i col0).sc<=3/\((cs.getD i col0).ty≠5->(cs.getD i col0).sc=0)
theorem KAt.snoc{N j:Nat}{cs:List Col}{c:Col}(h:KAt N cs)(hl:cs.length+(j+1)=N)(h1:c.nm=str [UInt8.ofNat (97+j)])(h2:okT c.ty=true)(h3:0<=c.sc/\c.sc<=3)(h4:c.ty≠5->c.sc=0):KAt N (cs++[c]):=by
 intro i hi
 by_cases hlt:i<cs.length
 ·rw[List.getD_eq_getElem?_getD,List.getElem?_append_left hlt,←List.getD_eq_getElem?_getD];exact h i hlt
 ·have:i=cs.length:=by simp at hi;omega
  subst this
  rw[show(cs++[c]).getD cs.length col0=c from by simp]
  exact⟨by rw[h1,show N-1-cs.length=j from by omega],h2,h3.1,h3.2,h4⟩
def KOK(cs:List Col)(key:Int):Prop:=1<=cs.length/\cs.length<=4/\KAt cs.length cs/\0<=key/\key<cs.length
def KSch(T:TypeId)(w:World):Ending->World->Prop:=fun e w'=>Below w.heap.size w w'/\∃v cs key,e=.returned (.agg #[v,.int .i64 key])/\OwnC T w' w.heap.size v cs/\KOK cs key
theorem Eq6(j:Nat)(h:j<4):(⟨#[97,98,99,100]⟩:ByteArray).extract j (j+1)=str [UInt8.ofNat (97+j)]:=by
 match j,h with
 | 0,_=>rfl
 | 1,_=>rfl
 | 2,_=>rfl
 | 3,_=>rfl
theorem Sr.drewN{w:World}{g:Nat}{v:Value}{zl:List Int}(k:Nat)(h:Sr w g v zl):Sr (w.drewN k) g v zl:=by
 have h2:=Src.drewN k h
 exact⟨Q2 _ _,h2.base,h2.lt,h2.c0,h2.c1,h2.fr,h2.rd.below h2.below,h2.wf⟩
theorem Sr.drew{w:World}{g:Nat}{v:Value}{zl:List Int}(h:Sr w g v zl):Sr w.drew g v zl:=h.drewN 1
theorem Sr.set{w:World}{g:Nat}{v:Value}{zl:List Int}(h:Sr w g v zl)(i:Nat)(hi:i<=zl.length):Sr (w.setCell ⟨g,1,none⟩ (.int .i64 (i:Int))) g v zl:=by
 have h2:=Src.set h i hi
 exact⟨Q2 _ _,h2.base,h2.lt,h2.c0,h2.c1,h2.fr,h2.rd.below h2.below,h2.wf⟩
def RetG(v:Value)(w':World):Ending->World->Prop:=fun e w''=>e=.returned v/\w''=w'
end Go.SC
namespace Go.P
open RowKit VB VL SC
theorem Dt4(A:Option Addr)(n c:Nat)(w:World):Calls Tryz.prog 42 #[.slice A n c] w (RetG (.pointer (some ⟨w.heap.size,0,none⟩)) (w.alloc (.cells #[.slice A n c,.int .i64 0] 134))):=by
 go_enter Tryz.func42,Tryz.ntmps42
 go_wp2
 go_ret
 exact⟨rfl,rfl⟩
theorem Fa5(w:World)(g:Nat)(v:Value)(zl:List Int)(n:Int)(hs:Sr w g v zl)(hn:1<=n)(Ah:n<=4611686018427387904):
   Calls Tryz.prog 43 #[.pointer (some ⟨g,0,none⟩),.int .i64 n] w (NxtP w g v zl n):=by
 obtain⟨i,hi,Ai⟩:=hs.c1
 have Ab:=hs.c0
 have Af:=hs.fr
 have Ag:=hs.rd
 have Ak:=hs.lt
 have Ae:=hs.wf
 have HM:=fun k x h=>NxtP.mk' (w:=w) (n:=n) (hs.drewN k) ((But.refl g w).drewN k) (x:=.int .i64 x) rfl h
 have HV:=fun k m x(j:Nat)(hj:j<=zl.length)h=>NxtP.mk' (w:=w) (n:=n) (((hs.drewN m).set j hj).drewN k) ((((But.refl g w).drewN m).set 1 (.int .i64 (j:Int))).drewN k) (x:=.int .i64 x) rfl h
 clear hs
 generalize hQ:NxtP w g v zl n=Q at *
 clear hQ
 have Ac:=Hd HM;have HV':=Hd HV;clear HM HV
 obtain⟨A,c,rfl,hc,hm,hr⟩:=Ag
 unfold maxLen at hm
 by_cases he:i=zl.length
 ·have hd:decide (zl.length<=i)=true:=Q4 (by omega)
  clear hr
  go_enter Tryz.func43,Tryz.ntmps43
  go_wp2_with fail
  go_quiet(fail)
  go_wp2
  exact Ac.out _ 0 ⟨by omega,by omega⟩
 ·have Aa:i<zl.length:=by omega
  have hd:decide (zl.length<=i)=false:=Q3 (by omega)
  obtain⟨ad,hA,Aj,Ad⟩:=hr i Aa
  subst hA
  have hz:=Ae _ (get_mem_int Aa)
  generalize zl.getD i 0=z at *
  clear hr Ae he
  have HP:=fun w=>Hd (Bt0 z n w hz hn Ah)
  have hp:=Be2 z (n:=n) (by omega)
  generalize Ch0 z n=p at *
  clear hz
  go_enter Tryz.func43,Tryz.ntmps43
  go_wp2_with fail
  go_quiet(fail)
  have k0:((w.drewN nq).setCell ⟨g,1,none⟩ (.int .i64 ((i:Int)+1))).cell? ⟨g,0,none⟩=some (.slice (some ad) zl.length c):=
   (World.cell?_setCell_other _ _ _ _ (by simp)).trans ((drewN_cell w nq _).trans Ab)
  have k1:((w.drewN nq).setCell ⟨g,1,none⟩ (.int .i64 ((i:Int)+1))).cell? ⟨g,1,none⟩=some (.int .i64 ((i:Int)+1)):=
   World.cell?_setCell_same _ _ _ ((drewN_cell w nq _).trans hi)
  have k2:((w.drewN nq).setCell ⟨g,1,none⟩ (.int .i64 ((i:Int)+1))).cell? (ad.add i)=some (.int .i64 z):=
   (World.cell?_setCell_other _ _ _ _ (fun e=>by have h:=congrArg Addr.block e;rw[block_add] at h;simp at h;omega)).trans ((drewN_cell w nq _).trans Ad)
  have HE:=fun k=>HV'.out k nq p (i+1) (by omega) hp
  push_cast at HE
  go_wp2_with fail
  clear HV' Ac Ab hi Ad Af
  generalize (w.drewN nq).setCell ⟨g,1,none⟩ (.int .i64 ((i:Int)+1))=w1 at *
  go_quiet(first | (go_at_call 19;refine quiet6 (HP _).out))
  go_wp2
  exact HE _
theorem Bu1(W:World)(v:Value)(zl:List Int)(hr:RdI .i64 W W.heap.size v zl)(hw:∀z∈zl,(Lit.int .i64 z).wf=true):
   Calls Tryz.prog 15 #[v] W (KSch 62 W):=by
 obtain⟨A,c,rfl,hc,hm,Cl⟩:=hr
 have hr:RdI .i64 W W.heap.size (.slice A zl.length c) zl:=⟨A,c,rfl,hc,hm,Cl⟩
 clear hc hm Cl
 obtain⟨X,hX⟩:∃X,X=((W.alloc (.cells #[.slice none 0 0,.int .i64 0] 24)).alloc (.cells #[.slice A zl.length c,.int .i64 0] 134)).alloc (.cells #[.slice none 0 0,.int .i64 0] 24):=⟨_,rfl⟩
 have hB:Below W.heap.size W X:=by rw[hX];exact(((Q2 _ _).alloc (Q1 _) _).alloc (by simp) _).alloc (by simp;omega) _
 have Bu:X.heap.size=W.heap.size+3:=by rw[hX];simp
 have By:=Var2.new W (.slice none 0 0) (.int .i64 0) 24
 have Cj:=By.step ((Q2 _ _).alloc (Q1 _) (.cells #[.slice A zl.length c,.int .i64 0] 134))
 have hV:=Cj.step ((Q2 _ _).alloc (Q1 _) (.cells #[.slice none 0 0,.int .i64 0] 24))
 have Cp:=Var2.new (W.alloc (.cells #[.slice none 0 0,.int .i64 0] 24)) (.slice A zl.length c) (.int .i64 0) 134
 have Ao:=Cp.step ((Q2 _ _).alloc (Q1 _) (.cells #[.slice none 0 0,.int .i64 0] 24))
 have Af:=Var2.new ((W.alloc (.cells #[.slice none 0 0,.int .i64 0] 24)).alloc (.cells #[.slice A zl.length c,.int .i64 0] 134)) (.slice none 0 0) (.int .i64 0) 24
 rw[show(W.alloc (.cells #[.slice none 0 0,.int .i64 0] 24)).heap.size=W.heap.size+1 from by simp] at Ao
 rw[show((W.alloc (.cells #[.slice none 0 0,.int .i64 0] 24)).alloc (.cells #[.slice A zl.length c,.int .i64 0] 134)).heap.size=W.heap.size+2 from by simp] at Af
 rw[←hX] at hV Ao Af
 clear By Cj Cp
 have hS:Sr X (W.heap.size+1) (.slice A zl.length c) zl:=⟨Q2 _ _,Q1 _,by omega,Ao.c0,⟨0,Ao.c1,Nat.zero_le _⟩,Ao.f1,(hr.below hB).more (by omega),hw⟩
 clear Ao
 have hF:=fun w=>Hd (Dt4 A zl.length c w)
 have HN:=fun n w hs h1 h2=>Hd (Fa5 w (W.heap.size+1) (.slice A zl.length c) zl n hs h1 h2)
 have Az:=(HN 4 X hS (by decide) (by decide))
 clear hr hw
 go_enter Tryz.func15,Tryz.ntmps15
 go_wp2_with fail
 refine(hF _).out.mono ?_
 rintro e w' ⟨rfl,rfl⟩
 clear hF
 rw[hX] at Az
 go_wp2_with fail
 refine Az.out.mono ?_
 rintro e w1 ⟨r,rfl,Dd,Cb,Al⟩
 rw[←hX] at Al
 clear hX Az hS
 have Be:W.heap.size+3<=w1.heap.size:=by rw[Al.size];omega
 replace hV:=Al.var2 hV (by omega)
 replace Af:=Al.var2 Af (by omega)
 replace hB:=Al.below hB (by omega)
 clear Al Bu
 go_wp2_with fail
 go_loopw[5,6] (fun t5 _ wr=>∃(m:Nat)(cs:List Col),t5=.int .i64 (m:Nat)/\cs.length+m=r+1/\Below W.heap.size W wr/\W.heap.size+3<=wr.heap.size/\Hid (Sr wr (W.heap.size+1) (.slice A zl.length c) zl)/\Hid (Var2 wr W.heap.size (.slice none 0 0) (.int .i64 0)) /\
  Hid (∃sv,Var2 wr (W.heap.size+2) sv (.int .i64 0)/\OwnC 62 wr (W.heap.size+3) sv cs)/\Hid (KAt (r+1) cs)) (fun t5 _ _=>(intOf t5).toNat)
 case atStart=>exact⟨r+1,[],by go_num,by simp,hB,Be,Hd Cb,Hd hV,Hd ⟨_,Af,OwnC.nil _ _ _⟩,Hd (fun i hi=>absurd hi (Nat.not_lt_zero _))⟩
 case round=>
  clear hB Be Cb hV Af
  obtain⟨m,cs,rfl,Ax,hB,Bu,HS,HV,HO,HK⟩:=hrel
  by_cases hm:m=0
  ·subst hm
   obtain⟨sv,An,Ac⟩:=HO.out
   obtain⟨A2,c2,rfl,_⟩:=Ac.read
   have hV:=HV.out
   have Cf:=Hd (HN (cs.length:Nat) wr HS.out (by omega) (by omega)).out
   have Cg:Hid (∀key:Nat,(key:Int)<(cs.length:Nat)->KOK cs key):=Hd fun key hk=>⟨by omega,by omega,by rw[show cs.length=r+1 from by omega];exact HK.out,by omega,hk⟩
   clear HN HS HV HO HK
   obtain⟨s0,s1,s2,s3⟩:=id An
   go_wp2_with fail
   refine Cf.out.mono ?_
   rintro e w2 ⟨key,rfl,Bh,_,hG⟩
   have Af:=hG.var2 hV (by omega)
   have Bd:=hG.var2 An (by omega)
   have Cu:=hG.below hB (by omega)
   have Ce:=hG.own Ac (by omega)
   have Dc:=Hd (Cg.out key Bh)
   clear Cf Cg hG hV An hB Ac s0 s1 s2 s3 Bh Ax
   have Bb:=Af.other2 (c:=W.heap.size+2) (i:=1) (u:=.int .i64 (key:Int)) (by omega)
   have Bt:=Bd.set1s (.int .i64 (key:Int))
   have Bg:Below W.heap.size W (w2.setCell ⟨W.heap.size+2,1,none⟩ (.int .i64 (key:Int))):=Cu.setCell (p:=⟨W.heap.size+2,1,none⟩) (by show W.heap.size<=W.heap.size+2;omega) _
   have Ca:OwnC 62 (w2.setCell ⟨W.heap.size+2,1,none⟩ (.int .i64 (key:Int))) (W.heap.size+3) (.slice A2 cs.length c2) cs:=ownsRow_setCell_below Ce (a:=⟨W.heap.size+2,1,none⟩) (by show W.heap.size+2<W.heap.size+3;omega) _
   clear Cu Ce
   have Cz:=Bb.set01 (.slice A2 cs.length c2) (.int .i64 (key:Int))
   have De:Below W.heap.size W (((w2.setCell ⟨W.heap.size+2,1,none⟩ (.int .i64 (key:Int))).setCell ⟨W.heap.size,0,none⟩ (.slice A2 cs.length c2)).setCell ⟨W.heap.size,1,none⟩ (.int .i64 (key:Int))):=
    (Bg.setCell (p:=⟨W.heap.size,0,none⟩) (Q1 _) _).setCell (p:=⟨W.heap.size,1,none⟩) (Q1 _) _
   have Di:OwnC 62 (((w2.setCell ⟨W.heap.size+2,1,none⟩ (.int .i64 (key:Int))).setCell ⟨W.heap.size,0,none⟩ (.slice A2 cs.length c2)).setCell ⟨W.heap.size,1,none⟩ (.int .i64 (key:Int))) (W.heap.size+3) (.slice A2 cs.length c2) cs:=
    ownsRow_setCell_below (ownsRow_setCell_below Ca (a:=⟨W.heap.size,0,none⟩) (by show W.heap.size<W.heap.size+3;omega) _) (a:=⟨W.heap.size,1,none⟩) (by show W.heap.size<W.heap.size+3;omega) _
   clear Bg Ca
   obtain⟨s0,s1,s2,s3⟩:=Bd
   obtain⟨x0,x1,x2,x3⟩:=Bt
   obtain⟨q0,q1,q2,q3⟩:=Bb
   clear Af
   go_wp2_with fail
   generalize ((w2.setCell ⟨W.heap.size+2,1,none⟩ (.int .i64 (key:Int))).setCell ⟨W.heap.size,0,none⟩ (.slice A2 cs.length c2)).setCell ⟨W.heap.size,1,none⟩ (.int .i64 (key:Int))=w9 at *
   obtain⟨m0,m1,_,_⟩:=Cz
   refine bodyPost_ret (v:=.agg #[.slice A2 cs.length c2,.int .i64 (key:Int)]) (by simp[results,Tryz.results15,go_sem,m0,m1]) rfl ?_
   exact⟨De,_,cs,key,rfl,Di.lower (by omega),Dc.out⟩
  ·obtain⟨j,rfl⟩:∃j,m=j+1:=⟨m-1,by omega⟩
   have hcut:=Eq6 j (by omega)
   obtain⟨NM,Bv⟩:∃NM,str [UInt8.ofNat (97+j)]=NM:=⟨_,rfl⟩
   rw[Bv] at hcut
   have Bl:=Hd Bv
   clear Bv
   have Dl:j<4:=by omega
   have e1:IntKind.i64.wrap (j:Int)=(j:Int):=IntWalk.i64_in _ ⟨by omega,by omega⟩
   have e2:(0:Int)<=(j:Int)+1:=by omega
   have c1:(0:Int)<=(j:Int):=by omega
   have c2:(j:Int)<=(j:Int)+1:=by omega
   have c3:(j:Int)+1<=4:=by omega
   clear hm
   have Bk:=fun n h1 h2 w(hs:Sr w (W.heap.size+1) (.slice A zl.length c) zl)=>HN n w hs h1 h2
   have Cd:=Hd (Bk 5 (by decide) (by decide))
   have Bx:=Hd (Bk 4 (by decide) (by decide))
   have Co:=Hd (Bk 2 (by decide) (by decide))
   clear HN Bk
   have hS:=HS.out
   have Bw:Var4F (wr.alloc (.cells #[.string ⟨#[]⟩,.int .i64 0,.int .i64 0,.bool false] 62)).drew wr.heap.size (.string ⟨#[]⟩) (.int .i64 0) (.int .i64 0) (.bool false):=(Var4F.new wr _ _ _ _ _).step ((Q2 _ _).drew)
   have Bn:wr.drew.heap.size=wr.heap.size:=rfl
   have Bq:(wr.alloc (.cells #[.string ⟨#[]⟩,.int .i64 0,.int .i64 0,.bool false] 62)).drew.heap.size=wr.heap.size+1:=by show(wr.alloc (.cells #[.string ⟨#[]⟩,.int .i64 0,.int .i64 0,.bool false] 62)).heap.size=_;simp
   clear HS
   go_upto_region 6 with fail
   go_cut [6] from 12 to 38 (fun cp w'=>∃(b r5:Nat)(nu:Bool),cp=.pointer (some ⟨b,0,none⟩)/\r5<5/\wr.heap.size<=b/\Sr w' (W.heap.size+1) (.slice A zl.length c) zl/\GB (W.heap.size+1) wr w'/\Var4F w' b (.string NM) (.int .i64 (1+(r5:Int))) (.int .i64 0) (.bool nu))
   case first=>
    go_region_with(first
     | (go_at_call_of 43 (Value.int .i64 5);(with_reducible refine(Cd.out _ ?_).out.mono ?_);(first | (with_reducible exact Ae) | (with_reducible exact Sr.alc Ae _) | (with_reducible exact Sr.drew hS) | (with_reducible exact Sr.drew (Sr.alc hS _)));rintro e w5 ⟨r5,rfl,Cw,Ay,Ai⟩;have hz5:=Ai.size;have hw5:IntKind.i64.wrap (1+(r5:Int))=1+(r5:Int):=IntWalk.i64_in _ ⟨by omega,by omega⟩;(first | (with_reducible have hy:=But.var4 Ai Bw (by omega);obtain⟨k0,k1,k2,k3,f0,f1,f2,f3⟩:=hy) | (with_reducible have hy:=But.var4 Ai ⟨k0,k1,k2,k3,f0,f1,f2,f3⟩ (by omega);obtain⟨k0,k1,k2,k3,f0,f1,f2,f3⟩:=hy) | (with_reducible have hy:=But.var4 Ai (Var4F.new w2 (.string ⟨#[]⟩) (.int .i64 0) (.int .i64 0) (.bool false) 62) (by omega);have hq:=hz2.trans Bn;rw[hq] at hy;obtain⟨k0,k1,k2,k3,f0,f1,f2,f3⟩:=hy) | (skip)))
     | (go_at_call_of 43 (Value.int .i64 2);(with_reducible refine(Co.out _ ?_).out.mono ?_);(first | (with_reducible exact Ay) | (with_reducible exact Sr.alc Ay _) | (with_reducible exact Sr.drew hS) | (with_reducible exact Sr.drew (Sr.alc hS _)));rintro e w2 ⟨r2,rfl,Dk,Ae,Ah⟩;have hz2:=Ah.size;(first | (with_reducible have hy:=But.var4 Ah Bw (by omega);obtain⟨k0,k1,k2,k3,f0,f1,f2,f3⟩:=hy) | (with_reducible have hy:=But.var4 Ah ⟨k0,k1,k2,k3,f0,f1,f2,f3⟩ (by omega);obtain⟨k0,k1,k2,k3,f0,f1,f2,f3⟩:=hy) | (with_reducible have hy:=But.var4 Ah (Var4F.new w5 (.string ⟨#[]⟩) (.int .i64 0) (.int .i64 0) (.bool false) 62) (by omega);have hq:=hz5.trans Bn;rw[hq] at hy;obtain⟨k0,k1,k2,k3,f0,f1,f2,f3⟩:=hy) | (skip))))
    all_goals clear Cd Co HV HO Bl HK
    ·go_wp2_with fail
     go_meet
     case rel=>
      have hq:=(hz2.trans hz5).trans Bn
      have hv:=Var4F.new w2 (.string NM) (.int .i64 (1+(r5:Int))) (.int .i64 0) (.bool ((r2:Int)==0)) 62
      rw[hq] at hv
      exact⟨wr.heap.size,r5,((r2:Int)==0),rfl,by omega,Q1 _,Ae.alc _,(((GB.drew _ wr).but Ai).but Ah).alloc _,hv⟩
    ·go_wp2_with fail
     go_meet
     case rel=>exact⟨_,r5,_,rfl,by omega,Q1 _,Ae.but ((But.refl _ w2).set4 _ _ _ _) (by omega),(((((GB.drew _ wr).but Ai).alloc _).but Ah)).set4 (Q1 _) _ _ _ _,Var4F.set ⟨k0,k1,k2,k3,f0,f1,f2,f3⟩ _ _ _ _⟩
    ·go_wp2_with fail
     go_meet
     case rel=>exact⟨_,r5,_,rfl,by omega,Q1 _,Ae.but ((But.refl _ w2).set4 _ _ _ _) (by omega),(((GB.alloc0 _ wr _).but Ai).but Ah).set4 (Q1 _) _ _ _ _,Var4F.set ⟨k0,k1,k2,k3,f0,f1,f2,f3⟩ _ _ _ _⟩
   case rest=>
    obtain⟨b,r5,nu,rfl,Cw,Cc,Ae,Bo,Ag⟩:=hcut
    clear hS Bw Bn Bq hcut
    obtain⟨ty,Cv⟩:∃ty:Int,1+(r5:Int)=ty:=⟨_,rfl⟩
    rw[Cv] at Ag
    have Aw:okT ty=true:=Q4 (by omega)
    clear Cv Cw
    have Ct:b≠W.heap.size+1:=by omega
    obtain⟨k0,k1,k2,k3,f0,f1,f2,f3⟩:=id Ag
    go_upto_if 29 with fail
    go_cut [6] from 12 to 38 (fun cp w'=>∃(sc:Int),cp=.pointer (some ⟨b,0,none⟩)/\0<=sc/\sc<=3/\(ty≠5->sc=0)/\Sr w' (W.heap.size+1) (.slice A zl.length c) zl/\GB (W.heap.size+1) wr w'/\Var4F w' b (.string NM) (.int .i64 ty) (.int .i64 sc) (.bool nu))
    case first=>
     clear HV HO Bl HK
     by_cases h5:ty=5
     ·have hd:(ty==5)=true:=Bm4 h5
      have Az:=Hd (Bx.out _ Ae).out
      clear Bx
      go_wp2_with fail
      refine Az.out.mono ?_
      rintro e w4 ⟨r4,rfl,Dd,Bm,Cs⟩
      have Bc:=Cs.var4 Ag Ct
      have Bp:=Bo.but Cs
      clear k0 k1 k2 k3 f0 f1 f2 f3 Ag
      obtain⟨k0,k1,k2,k3,f0,f1,f2,f3⟩:=id Bc
      go_wp2_with fail
      go_meet
      case rel=>exact⟨r4,rfl,by omega,by omega,fun h=>absurd h5 h,Bm.but ((But.refl b w4).set 2 _) (by omega),Bp.set (p:=⟨b,2,none⟩) Cc _,Bc.set2 _⟩
     ·have hd:(ty==5)=false:=Ab3 h5
      go_wp2_with fail
      go_meet
      case rel=>exact⟨0,rfl,by omega,by omega,fun _=>rfl,Ae,Bo,Ag⟩
    case rest=>
     clear k0 k1 k2 k3 f0 f1 f2 f3 Ag Bo Ae
     obtain⟨sc,rfl,Ba,Aq,Ar,Ch,Ad,Ag⟩:=hcut
     have Bg:=Ad.below hB (by omega) (by omega)
     have Bb:=Ad.var2 HV.out (by omega)
     obtain⟨sv,An,Ac⟩:=HO.out
     have Ck:=Ad.var2 An (by omega)
     have Bs:=Ad.own Ac (by omega)
     have Dj:W.heap.size+3<=wc.heap.size:=by have:=Ad.size;omega
     have Df:=Bs.read
     obtain⟨A2,c2,rfl,_⟩:=Df
     have Cq:=Hd (HK.out.snoc (j:=j) (c:=⟨NM,ty,sc,nu⟩) Ax Bl.out.symm Aw ⟨Ba,Aq⟩ Ar)
     clear An Ac HO HV Ad hB Bu Aw Bl HK Ba Aq Ar Cc Ct Bx
     have Bm:=Ch.alc (.cells #[.string NM,.int .i64 ty,.int .i64 sc,.bool nu] 62)
     have Bc:=Bb.step ((Q2 _ _).alloc (Q1 _) (.cells #[.string NM,.int .i64 ty,.int .i64 sc,.bool nu] 62))
     have Bi:=Ck.step ((Q2 _ _).alloc (Q1 _) (.cells #[.string NM,.int .i64 ty,.int .i64 sc,.bool nu] 62))
     have Cm:=Bg.alloc (by omega) (.cells #[.string NM,.int .i64 ty,.int .i64 sc,.bool nu] 62)
     have Ap:W.heap.size+3<=(wc.alloc (.cells #[.string NM,.int .i64 ty,.int .i64 sc,.bool nu] 62)).heap.size:=by simp;omega
     have Bz:=Hd (Df1 wc ⟨NM,ty,sc,nu⟩ 62)
     have Bj:=Hd (Bs.alloc (.cells #[.string NM,.int .i64 ty,.int .i64 sc,.bool nu] 62))
     have Dg:cs.length<1000000:=by omega
     clear Bb Bs Bg Ch
     obtain⟨s0,s1,s2,s3⟩:=Ck
     obtain⟨k0,k1,k2,k3,f0,f1,f2,f3⟩:=Ag
     go_wp2_with(at_builtin;refine Ed2 rfl _ _ 22 rfl (W.heap.size+3) 62 Tryz.underlying22 Tryz.infCol (.slice A2 cs.length c2) cs rfl Bj.out wc.heap.size 1 ⟨NM,ty,sc,nu⟩ rfl ?_ Dg Ap ?_)
     ·intro j u hj
      have h1:=Bz.out j u hj
      first | exact h1 | exact hj
     ·intro v' w' ho Ak
      obtain⟨A',Aa,rfl,_,_,_⟩:=ho.read
      obtain⟨Ab,Aj⟩:∃Ab,cs++[(⟨NM,ty,sc,nu⟩:Col)]=Ab:=⟨_,rfl⟩
      have Cy:=Hd (show Ab.length=cs.length+1 from by rw[←Aj];simp)
      rw[Aj] at ho Cq⊢
      clear Aj Bz Bj s0 s1 s2 s3 k0 k1 k2 k3 f0 f1 f2 f3
      generalize wc.alloc (.cells #[.string NM,.int .i64 ty,.int .i64 sc,.bool nu] 62)=w4 at *
      have Ay:=Bm.below Ak (by omega)
      have Cn:=Bc.below Ak (by omega)
      have Bf:=Bi.below Ak (by omega)
      have Cr:=Cm.trans (Ak.mono (by omega))
      have Au:W.heap.size+3<=w'.heap.size:=by have:=Ak.size;omega
      clear Bc Bi Cm Ap Ak Bm
      have Dh:=Hd (Ay.but (c:=W.heap.size+2) ((But.refl _ w').set 0 (.slice A' Ab.length Aa)) (by omega))
      have Cx:=Hd (Cn.other2 (c:=W.heap.size+2) (i:=0) (u:=.slice A' Ab.length Aa) (by omega))
      have As:=Bf.set00 (.slice A' Ab.length Aa)
      have Da:Below W.heap.size W (w'.setCell ⟨W.heap.size+2,0,none⟩ (.slice A' Ab.length Aa)):=Cr.setCell (p:=⟨W.heap.size+2,0,none⟩) (by show W.heap.size<=W.heap.size+2;omega) _
      have Ci:OwnC 62 (w'.setCell ⟨W.heap.size+2,0,none⟩ (.slice A' Ab.length Aa)) (W.heap.size+3) (.slice A' Ab.length Aa) Ab:=ownsRow_setCell_below ho (a:=⟨W.heap.size+2,0,none⟩) (by show W.heap.size+2<W.heap.size+3;omega) _
      have Br:W.heap.size+3<=(w'.setCell ⟨W.heap.size+2,0,none⟩ (.slice A' Ab.length Aa)).heap.size:=by rw[World.size_setCell];exact Au
      have Db:Hid (∃v,Var2 (w'.setCell ⟨W.heap.size+2,0,none⟩ (.slice A' Ab.length Aa)) (W.heap.size+2) v (.int .i64 0)/\OwnC 62 (w'.setCell ⟨W.heap.size+2,0,none⟩ (.slice A' Ab.length Aa)) (W.heap.size+3) v Ab):=Hd ⟨_,As,Ci⟩
      clear As Ci Cn Cr Au ho Ay
      obtain⟨s0,s1,s2,s3⟩:=Bf
      go_wp2_with fail
      go_roundw
      case rel=>exact⟨j,Ab,by go_num,by rw[Cy.out];omega,Da,Br,Dh,Cx,Db,Cq⟩
      case measure=>simp[intOf]<;>omega
end Go.P
