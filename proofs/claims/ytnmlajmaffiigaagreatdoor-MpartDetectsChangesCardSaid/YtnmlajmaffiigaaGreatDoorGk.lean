/- keep's Source once more: what is written between the choices, told by blocks; for keep's value, called again and again. -/
import Derived.Test.YtnmlajmaffiigaaGreatDoorGw
import Derived.Test.YtnmlajmaffiigaaGreatDoorGa
import Derived.Deep.RegionWith
import Derived.BigQuiet
set_option linter.constructorNameAsVariable false
set_option maxRecDepth 100000
set_option maxHeartbeats 8000000
open Go Go.Proofs Go.Proofs.YtnmlajmaffiigaaGreatDoor Go.P
namespace Go.KV
open RowKit VB
theorem get_mem_int{l:List Int}{i:Nat}(h:i<l.length):l.getD i 0∈l:=by
 rw[List.getD_eq_getElem?_getD,Q7 h];exact List.getElem_mem h
structure GB(g:Nat)(w w':World):Prop where
 os:w'.os=w.os
 tape:w'.tape=w.tape
 output:w'.output=w.output
 size:w.heap.size<=w'.heap.size
 block:∀k,k<w.heap.size->k≠g->w'.heap[k]?=w.heap[k]?
theorem GB.refl(g:Nat)(w:World):GB g w w:=⟨rfl,rfl,rfl,Q1 _,fun _ _ _=>rfl⟩
theorem GB.drew{g:Nat}{a b:World}(h:GB g a b):GB g a b.drew:=⟨h.os,h.tape,h.output,h.size,h.block⟩
theorem GB.of{g B:Nat}{a b c:World}(h:GB g a b)(hb:Below B b c)(hB:a.heap.size<=B):GB g a c:=
 ⟨hb.os.trans h.os,hb.tape.trans h.tape,hb.output.trans h.output,Nat.le_trans h.size hb.size,fun k hk hg=>(hb.block k (by omega)).trans (h.block k hk hg)⟩
theorem GB.alloc{g:Nat}{a b:World}(h:GB g a b)(o:Obj):GB g a (b.alloc o):=h.of ((Q2 b.heap.size b).alloc (Q1 _) o) h.size
theorem GB.set{g:Nat}{a b:World}(h:GB g a b)(i:Nat)(x:Value):GB g a (b.setCell ⟨g,i,none⟩ x):=
 ⟨h.os,h.tape,h.output,by rw[World.size_setCell];exact h.size,fun k hk hg=>(Below.heap_setCell _ _ _ _ hg).trans (h.block k hk hg)⟩
theorem GB.setO{g b:Nat}{a c:World}(h:GB g a c)(hb:a.heap.size<=b)(i:Nat)(x:Value):GB g a (c.setCell ⟨b,i,none⟩ x):=
 ⟨h.os,h.tape,h.output,by rw[World.size_setCell];exact h.size,fun k hk hg=>(Below.heap_setCell _ _ _ _ (show k≠b by omega)).trans (h.block k hk hg)⟩
theorem GB.below{g B:Nat}{a b w0:World}(h:GB g a b)(h0:Below B w0 a)(hB:B<=g)(ha:B<=a.heap.size):Below B w0 b:=
 ⟨h.os.trans h0.os,h.tape.trans h0.tape,h.output.trans h0.output,Nat.le_trans h0.size h.size,fun k hk=>(h.block k (by omega) (by omega)).trans (h0.block k hk)⟩
structure Src(w0 w:World)(B g:Nat)(v:Value)(zl:List Int):Prop where
 gb:GB g w0 w
 base:B<=g
 lt0:g<w0.heap.size
 c0:w.cell? ⟨g,0,none⟩=some v
 c1:∃i:Nat,w.cell? ⟨g,1,none⟩=some (.int .i64 (i:Int))/\i<=zl.length
 fr:w.frozen? ⟨g,1,none⟩=false
 rd:RdI .i64 w0 B v zl
 wf:∀z∈zl,(Lit.int .i64 z).wf=true
section
variable {w0 w:World} {B g:Nat} {v:Value} {zl:List Int}
theorem Src.below(h:Src w0 w B g v zl):Below B w0 w:=h.gb.below (Q2 _ _) h.base (by have:=h.base;have:=h.lt0;omega)
theorem Src.lt(h:Src w0 w B g v zl):g<w.heap.size:=Nat.lt_of_lt_of_le h.lt0 h.gb.size
theorem Src.drew(h:Src w0 w B g v zl):Src w0 w.drew B g v zl:=
 ⟨h.gb.drew,h.base,h.lt0,h.c0,h.c1,h.fr,h.rd,h.wf⟩
theorem Src.drewN(k:Nat)(h:Src w0 w B g v zl):Src w0 (w.drewN k) B g v zl:=by
 induction k generalizing w with
 | zero=>exact h
 | succ k ih=>exact(ih h).drew
theorem drewN_cell(w:World)(k:Nat)(a:Addr):(w.drewN k).cell? a=w.cell? a:=by
 induction k generalizing w with
 | zero=>rfl
 | succ k ih=>exact ih w
theorem Src.alloc(h:Src w0 w B g v zl)(_hB:B<=w.heap.size)(o:Obj):Src w0 (w.alloc o) B g v zl:=
 ⟨h.gb.alloc o,h.base,h.lt0,(World.cell?_alloc_past o g 0 h.lt).trans h.c0,
  let ⟨i,e,hi⟩:=h.c1;⟨i,(World.cell?_alloc_past o g 1 h.lt).trans e,hi⟩,(World.frozen?_alloc_past o g 1 h.lt).trans h.fr,h.rd,h.wf⟩
theorem Src.set(h:Src w0 w B g v zl)(i:Nat)(hi:i<=zl.length):Src w0 (w.setCell ⟨g,1,none⟩ (.int .i64 (i:Int))) B g v zl:=
 ⟨h.gb.set _ _,h.base,h.lt0,(World.cell?_setCell_other _ _ _ _ (by simp)).trans h.c0,
  let ⟨_,e,_⟩:=h.c1;⟨i,World.cell?_setCell_same _ _ _ e,hi⟩,(World.frozen?_setCell _ _ _ _).trans h.fr,h.rd,h.wf⟩
theorem Src.setO{b:Nat}(h:Src w0 w B g v zl)(hb:w0.heap.size<=b)(i:Nat)(x:Value):Src w0 (w.setCell ⟨b,i,none⟩ x) B g v zl:=
 have Aa:∀j,(⟨b,i,none⟩:Addr)≠⟨g,j,none⟩:=fun j e=>by have:=congrArg Addr.block e;simp at this;have:=h.lt0;omega
 ⟨h.gb.setO hb _ _,h.base,h.lt0,(World.cell?_setCell_other _ _ _ _ (Aa _)).trans h.c0,
  let ⟨k,e,hi⟩:=h.c1;⟨k,(World.cell?_setCell_other _ _ _ _ (Aa _)).trans e,hi⟩,(World.frozen?_setCell _ _ _ _).trans h.fr,h.rd,h.wf⟩
theorem Src.size(h:Src w0 w B g v zl):B<=w.heap.size:=by have:=h.base;have:=h.lt;omega
theorem Src.again(h:Src w0 w B g v zl):Src w w B g v zl:=⟨GB.refl _ _,h.base,h.lt,h.c0,h.c1,h.fr,h.rd.below h.below,h.wf⟩
theorem Src.of{B':Nat}{w':World}(h:Src w0 w B g v zl)(hb:Below B' w w')(hg:g<B')(hw:w0.heap.size<=B'):Src w0 w' B g v zl:=
 have f2:w'.frozen? ⟨g,1,none⟩=w.frozen? ⟨g,1,none⟩:=World.frozen?_of_block (hb.block g hg)
 ⟨h.gb.of hb hw,h.base,h.lt0,(hb.cell (p:=⟨g,0,none⟩) hg).trans h.c0,let ⟨i,e,hi⟩:=h.c1;⟨i,(hb.cell (p:=⟨g,1,none⟩) hg).trans e,hi⟩,f2.trans h.fr,h.rd,h.wf⟩
end
theorem As7(w:World)(n:Nat):(w.drewN n).heap.size=w.heap.size:=by
 induction n generalizing w with
 | zero=>rfl
 | succ n ih=>exact ih w.drew
def grow(w:World):List Obj->World
 | []=>w
 | o::r=>grow (w.alloc o) r
theorem As3(n:Nat):∀(os:List Obj)(w:World),(grow w os).drewN n=grow (w.drewN n) os
 | [],_=>rfl
 | o::r,w=>As3 n r (w.alloc o)
theorem Cs7{g i:Nat}{x:Value}:∀(os:List Obj)(w:World),g<w.heap.size->(grow w os).setCell ⟨g,i,none⟩ x=grow (w.setCell ⟨g,i,none⟩ x) os
 | [],_,_=>rfl
 | o::r,w,h=>by
   rw[show grow w (o::r)=grow (w.alloc o) r from rfl,Cs7 r (w.alloc o) (by simp;omega),World.setCell_alloc_past o g i x h]
   rfl
theorem Af8{g i:Nat}:∀(os:List Obj)(w:World),g<w.heap.size->(grow w os).cell? ⟨g,i,none⟩=w.cell? ⟨g,i,none⟩
 | [],_,_=>rfl
 | o::r,w,h=>by
   rw[show grow w (o::r)=grow (w.alloc o) r from rfl,Af8 r (w.alloc o) (by simp;omega),World.cell?_alloc_past o g i h]
theorem Ae9{g i:Nat}:∀(os:List Obj)(w:World),g<w.heap.size->(grow w os).frozen? ⟨g,i,none⟩=w.frozen? ⟨g,i,none⟩
 | [],_,_=>rfl
 | o::r,w,h=>by
   rw[show grow w (o::r)=grow (w.alloc o) r from rfl,Ae9 r (w.alloc o) (by simp;omega),World.frozen?_alloc_past o g i h]
theorem Bb0{B:Nat}{w0:World}:∀(os:List Obj)(w:World),Below B w0 w->B<=w.heap.size->Below B w0 (grow w os)
 | [],_,h,_=>h
 | o::r,w,h,hB=>Bb0 r (w.alloc o) (h.alloc hB o) (by simp;omega)
theorem Ai0:∀(os:List Obj)(w:World),(grow w os).heap.size=w.heap.size+os.length
 | [],_=>rfl
 | o::r,w=>by rw[show grow w (o::r)=grow (w.alloc o) r from rfl,Ai0 r];simp;omega
theorem Al3(o:Obj):∀(os:List Obj)(w:World),(grow w os).alloc o=grow w (os++[o])
 | [],_=>rfl
 | _::r,_=>Al3 o r _
theorem Src.grow{w0:World}{B g:Nat}{v:Value}{zl:List Int}:∀(os:List Obj){w:World},Src w0 w B g v zl->Src w0 (grow w os) B g v zl
 | [],_,h=>h
 | o::r,_,h=>Src.grow r (h.alloc h.size o)
theorem Src.made{w:World}{A:Option Addr}{c:Nat}{zl:List Int}(hr:RdI .i64 w w.heap.size (.slice A zl.length c) zl)(hw:∀z∈zl,(Lit.int .i64 z).wf=true)(e:TypeId):
   Src (w.alloc (.cells #[.slice A zl.length c,.int .i64 0] e)) (w.alloc (.cells #[.slice A zl.length c,.int .i64 0] e)) w.heap.size w.heap.size (.slice A zl.length c) zl:=
 ⟨GB.refl _ _,Q1 _,by simp,by rw[World.cell?_alloc_new];rfl,⟨0,by rw[World.cell?_alloc_new];rfl,Nat.zero_le _⟩,by simp,hr.below ((Q2 _ _).alloc (Q1 _) _),hw⟩
theorem quiet6{P:Program}{f:FuncId}{args:Array Value}{w:World}{n:Nat}{v:Value}(h:Calls P f args (w.drewN n) (Ret v (w.drewN n))):
 Calls P f args (w.drewN n) fun e w''=>e=.returned v/\∃m,w''=w.drewN m:=h.mono fun _ _⟨he,hm⟩=>⟨he,n,hm.symm⟩
def Chose(p:Int->Prop)(w0 wx:World)(os:List Obj)(B g:Nat)(v:Value)(zl:List Int):Ending->World->Prop:=fun e w'=>
 ∃r wy,e=.returned (.int .i64 r)/\p r/\Src w0 wy B g v zl/\wx.heap.size=wy.heap.size/\w'=grow wy os
theorem Chose.stay{p:Int->Prop}{w0 wx:World}{os:List Obj}{B g:Nat}{v:Value}{zl:List Int}{r:Int}{x:Value}(hs:Src w0 wx B g v zl)(k:Nat)(hx:x=.int .i64 r)(hp:p r):
   Chose p w0 wx os B g v zl (.returned x) ((grow wx os).drewN k):=
 ⟨r,wx.drewN k,by rw[hx],hp,hs.drewN k,(As7 wx k).symm,As3 k os wx⟩
theorem Chose.move{p:Int->Prop}{w0 wx:World}{os:List Obj}{B g:Nat}{v:Value}{zl:List Int}{r:Int}{x:Value}(hs:Src w0 wx B g v zl)(k m:Nat)(i:Nat)(hi:i<=zl.length)(hx:x=.int .i64 r)(hp:p r):
   Chose p w0 wx os B g v zl (.returned x) ((((grow wx os).drewN m).setCell ⟨g,1,none⟩ (.int .i64 (i:Int))).drewN k):=by
 refine⟨r,((wx.drewN m).setCell ⟨g,1,none⟩ (.int .i64 (i:Int))).drewN k,by rw[hx],hp,((hs.drewN m).set i hi).drewN k,?_,?_⟩
 ·rw[As7,World.size_setCell,As7]
 ·rw[As3,Cs7 _ _ (by rw[As7];exact hs.lt),As3]
end Go.KV
namespace Go.P
open RowKit VB KV
theorem Ac1(w0 wx:World)(os:List Obj)(B g:Nat)(v:Value)(zl:List Int)(n:Int)(hs:Src w0 wx B g v zl)(hn:1<=n)(Aj:n<=4611686018427387904):
   Calls Tryz.prog 43 #[.pointer (some ⟨g,0,none⟩),.int .i64 n] (grow wx os) (Chose (fun r=>0<=r/\r<n) w0 wx os B g v zl):=by
 obtain⟨i,hi,Ak⟩:=hs.c1
 have Ac:=(Af8 os wx hs.lt).trans hs.c0
 have Ag:=(Af8 os wx hs.lt).trans hi
 have Ah:=(Ae9 (i:=1) os wx hs.lt).trans hs.fr
 have Ab:Below B w0 (grow wx os):=Bb0 os wx hs.below hs.size
 have Ai:=hs.rd.below Ab
 have An:g<(grow wx os).heap.size:=by rw[Ai0];have:=hs.lt;omega
 have Af:=hs.wf
 have HM:=fun k x h=>Chose.stay (p:=fun r=>0<=r/\r<n) (os:=os) hs k (r:=x) (x:=.int .i64 x) rfl h
 have HV:=fun k m x j hj h=>Chose.move (p:=fun r=>0<=r/\r<n) (os:=os) hs k m j hj (r:=x) (x:=.int .i64 x) rfl h
 have hb:=hs.base
 clear hs Ab hi
 generalize grow wx os=w at *
 generalize hQ:Chose (fun r=>0<=r/\r<n) w0 wx os B g v zl=Q at *
 clear hQ
 have Ad:=Hd HM;have HV':=Hd HV;clear HM HV
 obtain⟨A,c,rfl,hc,hm,hr⟩:=Ai
 unfold maxLen at hm
 by_cases he:i=zl.length
 ·have hd:decide (zl.length<=i)=true:=Q4 (by omega)
  clear hr
  go_enter Tryz.func43,Tryz.ntmps43
  go_wp2_with fail
  go_quiet(fail)
  go_wp2
  exact Ad.out _ 0 ⟨by omega,by omega⟩
 ·have Aa:i<zl.length:=by omega
  have hd:decide (zl.length<=i)=false:=Q3 (by omega)
  obtain⟨ad,hA,Al,Ae⟩:=hr i Aa
  subst hA
  have hz:=Af _ (get_mem_int Aa)
  generalize zl.getD i 0=z at *
  clear hr Af he
  have HP:=fun w=>Hd (Bt0 z n w hz hn Aj)
  have hp:=Be2 z (n:=n) (by omega)
  generalize Ch0 z n=p at *
  clear hz
  go_enter Tryz.func43,Tryz.ntmps43
  go_wp2_with fail
  go_quiet(fail)
  have k0:((w.drewN nq).setCell ⟨g,1,none⟩ (.int .i64 ((i:Int)+1))).cell? ⟨g,0,none⟩=some (.slice (some ad) zl.length c):=
   (World.cell?_setCell_other _ _ _ _ (by simp)).trans ((drewN_cell w nq _).trans Ac)
  have k1:((w.drewN nq).setCell ⟨g,1,none⟩ (.int .i64 ((i:Int)+1))).cell? ⟨g,1,none⟩=some (.int .i64 ((i:Int)+1)):=
   World.cell?_setCell_same _ _ _ ((drewN_cell w nq _).trans Ag)
  have k2:((w.drewN nq).setCell ⟨g,1,none⟩ (.int .i64 ((i:Int)+1))).cell? (ad.add i)=some (.int .i64 z):=
   (World.cell?_setCell_other _ _ _ _ (fun e=>by have h:=congrArg Addr.block e;rw[block_add] at h;simp at h;omega)).trans ((drewN_cell w nq _).trans Ae)
  have HE:=fun k=>HV'.out k nq p (i+1) (by omega) hp
  push_cast at HE
  go_wp2_with fail
  clear HV' Ad Ac Ag Ae Ah
  generalize (w.drewN nq).setCell ⟨g,1,none⟩ (.int .i64 ((i:Int)+1))=w1 at *
  go_quiet(first | (go_at_call 19;refine quiet6 (HP _).out))
  go_wp2
  exact HE _
theorem Bd6(w0 wx:World)(os:List Obj)(B g:Nat)(v:Value)(zl:List Int)(hs:Src w0 wx B g v zl):
   Calls Tryz.prog 130 #[.pointer (some ⟨g,0,none⟩)] (grow wx os) (Chose (fun r=>(Lit.int .i64 r).wf=true) w0 wx os B g v zl):=by
 obtain⟨i,hi,Aj⟩:=hs.c1
 have Ac:=(Af8 os wx hs.lt).trans hs.c0
 have Ag:=(Af8 os wx hs.lt).trans hi
 have Ah:=(Ae9 (i:=1) os wx hs.lt).trans hs.fr
 have Ab:Below B w0 (grow wx os):=Bb0 os wx hs.below hs.size
 have Ai:=hs.rd.below Ab
 have Al:g<(grow wx os).heap.size:=by rw[Ai0];have:=hs.lt;omega
 have Af:=hs.wf
 have HM:=fun k x h=>Chose.stay (p:=fun r=>(Lit.int .i64 r).wf=true) (os:=os) hs k (r:=x) (x:=.int .i64 x) rfl h
 have HV:=fun k m x j hj h=>Chose.move (p:=fun r=>(Lit.int .i64 r).wf=true) (os:=os) hs k m j hj (r:=x) (x:=.int .i64 x) rfl h
 have hb:=hs.base
 clear hs Ab hi
 generalize grow wx os=w at *
 generalize hQ:Chose (fun r=>(Lit.int .i64 r).wf=true) w0 wx os B g v zl=Q at *
 clear hQ
 have Ad:=Hd HM;have HV':=Hd HV;clear HM HV
 obtain⟨A,c,rfl,hc,hm,hr⟩:=Ai
 unfold maxLen at hm
 by_cases he:i=zl.length
 ·have hd:decide (zl.length<=i)=true:=Q4 (by omega)
  clear hr
  go_enter Tryz.func130,Tryz.ntmps130
  go_wp2_with fail
  go_quiet(fail)
  go_wp2
  exact Ad.out _ 0 (by decide)
 ·have Aa:i<zl.length:=by omega
  have hd:decide (zl.length<=i)=false:=Q3 (by omega)
  obtain⟨ad,hA,Ak,Ae⟩:=hr i Aa
  subst hA
  have hz:=Af _ (get_mem_int Aa)
  generalize zl.getD i 0=z at *
  clear hr Af he
  have hp:=hz
  clear hz
  go_enter Tryz.func130,Tryz.ntmps130
  go_wp2_with fail
  go_quiet(fail)
  have k0:((w.drewN nq).setCell ⟨g,1,none⟩ (.int .i64 ((i:Int)+1))).cell? ⟨g,0,none⟩=some (.slice (some ad) zl.length c):=
   (World.cell?_setCell_other _ _ _ _ (by simp)).trans ((drewN_cell w nq _).trans Ac)
  have k1:((w.drewN nq).setCell ⟨g,1,none⟩ (.int .i64 ((i:Int)+1))).cell? ⟨g,1,none⟩=some (.int .i64 ((i:Int)+1)):=
   World.cell?_setCell_same _ _ _ ((drewN_cell w nq _).trans Ag)
  have k2:((w.drewN nq).setCell ⟨g,1,none⟩ (.int .i64 ((i:Int)+1))).cell? (ad.add i)=some (.int .i64 z):=
   (World.cell?_setCell_other _ _ _ _ (fun e=>by have h:=congrArg Addr.block e;rw[block_add] at h;simp at h;omega)).trans ((drewN_cell w nq _).trans Ae)
  have HE:=fun k=>HV'.out k nq z (i+1) (by omega) hp
  push_cast at HE
  go_wp2_with fail
  clear HV' Ad Ac Ag Ae Ah
  generalize (w.drewN nq).setCell ⟨g,1,none⟩ (.int .i64 ((i:Int)+1))=w1 at *
  go_quiet(fail)
  go_wp2
  exact HE _
end Go.P
namespace Go.KV
open RowKit VB VL
def VOK(ty:Int)(nul:Bool)(n:Int)(s:ByteArray):Prop:=chk ty true nul n s=0/\(Lit.int .i64 n).wf=true/\s.size<=3
def RetS(p:Bool->Int->ByteArray->Prop)(w0:World)(B g:Nat)(v:Value)(zl:List Int):Ending->World->Prop:=fun e w'=>
 ∃nul n s,e=.returned (.agg #[.bool nul,.int .i64 n,.string s])/\p nul n s/\Src w0 w' B g v zl
theorem RetS.mk{p:Bool->Int->ByteArray->Prop}{B g:Nat}{w0 w':World}{v:Value}{zl:List Int}{x:Value}(Aa:Bool)(n:Int)(s:ByteArray)(hx:x=.agg #[.bool Aa,.int .i64 n,.string s])(hp:p Aa n s)(hb:Src w0 w' B g v zl):
 RetS p w0 B g v zl (.returned x) w':=⟨Aa,n,s,by rw[hx],hp,hb⟩
def RetW(v:Value)(w':World):Ending->World->Prop:=fun e w''=>e=.returned v/\w''=w'
theorem Ew6{ty:Int}(h:1<=ty/\ty<=5):VOK ty true 0 ⟨#[]⟩:=by
 refine⟨?_,by decide,by decide⟩
 rw[Bk8 (Q4 h)];rfl
theorem Am6(l:List UInt8)(h:l.length<=3):VOK 3 false 0 (str l):=by
 refine⟨?_,by decide,by rw[Aa3];exact h⟩
 rw[Ap3 rfl,if_neg (by omega)]
 have:okP 3 0 (str l)=true:=Q4 (by rw[Aa3];omega)
 rw[this];rfl
theorem Ad1{ty n:Int}(h:1<=ty/\ty<=5)(h3:ty≠3)(hp:okP ty n ⟨#[]⟩=true)(hw:(Lit.int .i64 n).wf=true):VOK ty false n ⟨#[]⟩:=by
 refine⟨?_,hw,by decide⟩
 rw[Ap3 (Q4 h),if_neg (by rintro(h | h);exact h3 h.1;exact h.2 rfl),hp];rfl
theorem Aj2(n:Int):bits .and .i64 n 1=0\/bits .and .i64 n 1=1:=by
 unfold bits
 simp
 rw[show 1%2 ^ IntKind.i64.bits=1 from by decide,Nat.and_one_is_mod]
 rcases Nat.mod_two_eq_zero_or_one (n%2 ^ IntKind.i64.bits).toNat with h | h
 ·left;rw[h];decide
 ·right;rw[h];decide
theorem Ah5(n:Int){m:Int}(hm:0<m):-m<n.tmod m/\n.tmod m<m:=by
 have h1:=Int.tmod_lt_of_pos n hm
 have h2:=Int.neg_tmod n m
 have h3:=Int.tmod_lt_of_pos (-n) hm
 omega
theorem Ak5{w:World}{b:Nat}{x y z x0 y0 z0:Value}(k0:w.cell? ⟨b,0,none⟩=some x0)(k1:w.cell? ⟨b,1,none⟩=some y0)(k2:w.cell? ⟨b,2,none⟩=some z0):
   (((w.setCell ⟨b,0,none⟩ x).setCell ⟨b,1,none⟩ y).setCell ⟨b,2,none⟩ z).cell? ⟨b,0,none⟩=some x /\
   (((w.setCell ⟨b,0,none⟩ x).setCell ⟨b,1,none⟩ y).setCell ⟨b,2,none⟩ z).cell? ⟨b,1,none⟩=some y /\
   (((w.setCell ⟨b,0,none⟩ x).setCell ⟨b,1,none⟩ y).setCell ⟨b,2,none⟩ z).cell? ⟨b,2,none⟩=some z:=by
 refine⟨?_,?_,?_⟩
 ·rw[World.cell?_setCell_other _ _ _ _ (by simp),World.cell?_setCell_other _ _ _ _ (by simp),World.cell?_setCell_same _ _ _ k0]
 ·rw[World.cell?_setCell_other _ _ _ _ (by simp),World.cell?_setCell_same _ _ _ ((World.cell?_setCell_other _ _ _ _ (by simp)).trans k1)]
 ·rw[World.cell?_setCell_same _ _ _ ((World.cell?_setCell_other _ _ _ _ (by simp)).trans ((World.cell?_setCell_other _ _ _ _ (by simp)).trans k2))]
end Go.KV
namespace Go.P
open RowKit VB VL KV
theorem Dl1(A:Option Addr)(n c:Nat)(w:World):Calls Tryz.prog 42 #[.slice A n c] w (RetW (.pointer (some ⟨w.heap.size,0,none⟩)) (w.alloc (.cells #[.slice A n c,.int .i64 0] 134))):=by
 go_enter Tryz.func42,Tryz.ntmps42
 go_wp2
 go_ret
 exact⟨rfl,rfl⟩
theorem Cy2(w0 w:World)(B g:Nat)(v:Value)(zl:List Int)(nm:ByteArray)(ty sc:Int)(hs:Src w0 w B g v zl)(Ba:1<=ty/\ty<=5):
   Calls Tryz.prog 91 #[.pointer (some ⟨g,0,none⟩),(.agg #[.string nm,.int .i64 ty,.int .i64 sc,.bool false])] w (RetS (fun nul n s=>VOK ty nul n s/\(nul=true->false=true)) w0 B g v zl):=by
 have h5:ty=1\/ty=2\/ty=3\/ty=4\/ty=5:=by omega
 go_enter Tryz.func91,Tryz.ntmps91
 go_wp2_with fail
 refine(Ac1 w0 w [_,_] B g v zl 7 hs (by omega) (by omega)).mono ?_
 rintro e w' ⟨r1,w1,rfl,⟨Ay,Ax⟩,h1,hS,rfl⟩
 simp only[grow]
 rw[hS]
 clear hS hs
 go_wp2_with fail
 refine(Ac1 w0 w1 [_,_] B g v zl 8 h1 (by omega) (by omega)).mono ?_
 rintro e w' ⟨r2,w2,rfl,⟨Aw,Az⟩,h2,hS,rfl⟩
 simp only[grow]
 rw[hS]
 clear hS h1
 by_cases e0:r2=0
 ·subst e0
  go_wp2_with fail
  refine(Bd6 w0 w2 [_,_] B g v zl h2).mono ?_
  rintro e w' ⟨n,w3,rfl,hn,h3,hS,rfl⟩
  simp only[grow]
  rw[hS]
  clear hS h2
  rcases h5 with rfl | rfl | rfl | rfl | rfl
  ·go_wp2
   refine bodyPost_ret (v:=.agg #[.bool false,.int .i64 n,.string ⟨#[]⟩]) (by simp[results,Tryz.results91,go_sem]) rfl ?_
   exact RetS.mk _ _ _ rfl ⟨Ad1 (by omega) (by omega) rfl hn,fun h=>by cases h⟩ ((h3.alloc h3.size _).alloc (by simp;have:=h3.size;omega) _)
  ·have hb:=Aj2 n
   generalize Ao:bits .and .i64 n 1=b at hb
   go_wp2
   refine bodyPost_ret (v:=.agg #[.bool false,.int .i64 b,.string ⟨#[]⟩]) (by simp[results,Tryz.results91,go_sem]) rfl ?_
   exact RetS.mk _ _ _ rfl ⟨Ad1 (by omega) (by omega) (by rcases hb with rfl | rfl<;>rfl) (by rcases hb with rfl | rfl<;>decide),fun h=>by cases h⟩ ((h3.alloc h3.size _).alloc (by simp;have:=h3.size;omega) _)
  ·try subst Ai
   go_wp2_with fail
   refine(Ac1 w0 w3 [_,_] B g v zl 4 h3 (by omega) (by omega)).mono ?_
   rintro e w' ⟨k,wz,rfl,⟨ka,kb⟩,hz,hS,rfl⟩
   simp only[grow]
   rw[hS]
   clear hS h3
   obtain⟨k0,rfl⟩:=Int.eq_ofNat_of_zero_le ka
   have Aa:=Ae8 (P:=Tryz.prog) 41 9 5 Tryz.underlying41 Tryz.underlying5 Tryz.underlying9
   go_wp2_with fail
   generalize hH:wz.heap.size=H at *
   go_loopw[6,7] (fun x y wr=>∃(l:List UInt8)(j:Nat)(os:List Obj)(wx:World),x=.string (str l)/\y=.int .i64 (j:Int)/\l.length+j<=3/\Src w0 wx B g v zl/\wx.heap.size=H /\
      wr=grow wx ((.cells #[.string nm,.int .i64 3,.int .i64 sc,.bool false] 62)::(.cells #[.bool false,.int .i64 0,.string ⟨#[]⟩] 49)::os))
    (fun _ y _=>(intOf y).toNat)
   case atStart=>exact⟨[],k0,[],wz,rfl,rfl,by simp;omega,hz,hH,rfl⟩
   case round=>
    obtain⟨l,j,os,wx,rfl,rfl,Ak,hx,hH,rfl⟩:=hrel
    by_cases j0:j=0
    ·subst j0
     have Ae:∀os':List Obj,(grow wx os').heap.size=wx.heap.size+os'.length:=fun os'=>Ai0 os' wx
     have Ab:=Src.grow ((.cells #[.string nm,.int .i64 3,.int .i64 sc,.bool false] 62)::(.cells #[.bool false,.int .i64 0,.string ⟨#[]⟩] 49)::os) hx
     have Aj:=hx.gb.size
     have c0:∀i,(grow wx ((.cells #[.string nm,.int .i64 3,.int .i64 sc,.bool false] 62)::(.cells #[.bool false,.int .i64 0,.string ⟨#[]⟩] 49)::os)).cell? ⟨H+1,i,none⟩ =
      ((wx.alloc (.cells #[.string nm,.int .i64 3,.int .i64 sc,.bool false] 62)).alloc (.cells #[.bool false,.int .i64 0,.string ⟨#[]⟩] 49)).cell? ⟨H+1,i,none⟩:=fun i=>Af8 os _ (by simp;omega)
     have f0:∀i,(grow wx ((.cells #[.string nm,.int .i64 3,.int .i64 sc,.bool false] 62)::(.cells #[.bool false,.int .i64 0,.string ⟨#[]⟩] 49)::os)).frozen? ⟨H+1,i,none⟩ =
      ((wx.alloc (.cells #[.string nm,.int .i64 3,.int .i64 sc,.bool false] 62)).alloc (.cells #[.bool false,.int .i64 0,.string ⟨#[]⟩] 49)).frozen? ⟨H+1,i,none⟩:=fun i=>Ae9 os _ (by simp;omega)
     have k0:=c0 0
     have k1:=c0 1
     have k2:=c0 2
     have g0:=f0 0
     have g1:=f0 1
     have g2:=f0 2
     subst hH
     simp at k0 k1 k2 g0 g1 g2
     have Al:=hx.size
     clear hx Ae hz c0 f0 Aa
     generalize grow wx _=wr at *
     go_wp2
     obtain⟨m0,m1,m2⟩:=Ak5 (x:=.bool false) (y:=.int .i64 0) (z:=.string (str l)) k0 k1 k2
     have Af:=((Ab.setO (b:=wx.heap.size+1) (by omega) 0 (.bool false)).setO (b:=wx.heap.size+1) (by omega) 1 (.int .i64 0)).setO (b:=wx.heap.size+1) (by omega) 2 (.string (str l))
     generalize ((wr.setCell ⟨wx.heap.size+1,0,none⟩ (.bool false)).setCell ⟨wx.heap.size+1,1,none⟩ (.int .i64 0)).setCell ⟨wx.heap.size+1,2,none⟩ (.string (str l))=w9 at *
     refine bodyPost_ret (v:=.agg #[.bool false,.int .i64 0,.string (str l)]) (by simp[results,Tryz.results91,go_sem,m0,m1,m2]) rfl ?_
     exact RetS.mk _ _ _ rfl ⟨Am6 l (by omega),fun h=>by cases h⟩ Af
    ·have An:1<=j:=by omega
     clear j0
     go_wp2_with fail
     refine(Ac1 w0 wx _ B g v zl 3 hx (by omega) (by omega)).mono ?_
     rintro e w' ⟨q,wy,rfl,⟨qa,qb⟩,hy,hS,rfl⟩
     rw[hH] at hS
     obtain⟨q,rfl⟩:=Int.eq_ofNat_of_zero_le qa
     have Ag:=Ah1 (P:=Tryz.prog) l 3 (by omega) (by omega)
     have Ac:=fun c m=>Aa (grow wy ((.cells #[.string nm,.int .i64 3,.int .i64 sc,.bool false] 62)::(.cells #[.bool false,.int .i64 0,.string ⟨#[]⟩] 49)::os)) c m
     obtain⟨W,hW⟩:∃W,W=grow wy ((.cells #[.string nm,.int .i64 3,.int .i64 sc,.bool false] 62)::(.cells #[.bool false,.int .i64 0,.string ⟨#[]⟩] 49)::os):=⟨_,rfl⟩
     rw[←hW] at Ac⊢
     have HW:=Hd hW
     have HS:=Hd hS
     clear hW Aa hx hH hz hS
     go_wp2
     go_roundw
     case rel=>exact⟨_,j-1,_,wy,rfl,by go_num,by simp;omega,hy,HS.out.symm,by rw[HW.out,Al3];rfl⟩
     case measure=>simp[intOf]<;>omega
  ·have hq:-700000<n.tmod 700000/\n.tmod 700000<700000:=Ah5 n (by omega)
   have Ad:=bounds_i64 hn
   generalize Ah:n.tmod 700000=q at hq
   go_wp2
   refine bodyPost_ret (v:=.agg #[.bool false,.int .i64 q,.string ⟨#[]⟩]) (by simp[results,Tryz.results91,go_sem]) rfl ?_
   exact RetS.mk _ _ _ rfl ⟨Ad1 (by omega) (by omega) (Q4 (by omega)) (WalkArith.wf_i64 (by omega)),fun h=>by cases h⟩ ((h3.alloc h3.size _).alloc (by simp;have:=h3.size;omega) _)
  ·have hq:-1000000000000000000<n.tmod 1000000000000000000/\n.tmod 1000000000000000000<1000000000000000000:=Ah5 n (by omega)
   have Ad:=bounds_i64 hn
   generalize Ah:n.tmod 1000000000000000000=q at hq
   go_wp2
   refine bodyPost_ret (v:=.agg #[.bool false,.int .i64 q,.string ⟨#[]⟩]) (by simp[results,Tryz.results91,go_sem]) rfl ?_
   exact RetS.mk _ _ _ rfl ⟨Ad1 (by omega) (by omega) (Q4 (by omega)) (WalkArith.wf_i64 (by omega)),fun h=>by cases h⟩ ((h3.alloc h3.size _).alloc (by simp;have:=h3.size;omega) _)
 ·have f0:=Ab3 e0
  by_cases e1:r2=1
  ·subst e1
   clear e0 f0
   go_wp2_with fail
   refine(Bd6 w0 w2 [_,_] B g v zl h2).mono ?_
   rintro e w' ⟨n0,w3,rfl,Aq,h3,hS,rfl⟩
   simp only[grow]
   rw[hS]
   clear hS h2
   have Ap:-1000<n0.tmod 1000/\n0.tmod 1000<1000:=Ah5 n0 (by omega)
   have Au:=bounds_i64 Aq
   generalize Ar:n0.tmod 1000=n at Ap
   have hn:(Lit.int .i64 n).wf=true:=WalkArith.wf_i64 (by omega)
   rcases h5 with rfl | rfl | rfl | rfl | rfl
   ·go_wp2
    refine bodyPost_ret (v:=.agg #[.bool false,.int .i64 n,.string ⟨#[]⟩]) (by simp[results,Tryz.results91,go_sem]) rfl ?_
    exact RetS.mk _ _ _ rfl ⟨Ad1 (by omega) (by omega) rfl hn,fun h=>by cases h⟩ ((h3.alloc h3.size _).alloc (by simp;have:=h3.size;omega) _)
   ·have hb:=Aj2 n
    generalize Ao:bits .and .i64 n 1=b at hb
    go_wp2
    refine bodyPost_ret (v:=.agg #[.bool false,.int .i64 b,.string ⟨#[]⟩]) (by simp[results,Tryz.results91,go_sem]) rfl ?_
    exact RetS.mk _ _ _ rfl ⟨Ad1 (by omega) (by omega) (by rcases hb with rfl | rfl<;>rfl) (by rcases hb with rfl | rfl<;>decide),fun h=>by cases h⟩ ((h3.alloc h3.size _).alloc (by simp;have:=h3.size;omega) _)
   ·try subst Ai
    go_wp2_with fail
    refine(Ac1 w0 w3 [_,_] B g v zl 4 h3 (by omega) (by omega)).mono ?_
    rintro e w' ⟨k,wz,rfl,⟨ka,kb⟩,hz,hS,rfl⟩
    simp only[grow]
    rw[hS]
    clear hS h3
    obtain⟨k0,rfl⟩:=Int.eq_ofNat_of_zero_le ka
    have Aa:=Ae8 (P:=Tryz.prog) 41 9 5 Tryz.underlying41 Tryz.underlying5 Tryz.underlying9
    go_wp2_with fail
    generalize hH:wz.heap.size=H at *
    go_loopw[6,7] (fun x y wr=>∃(l:List UInt8)(j:Nat)(os:List Obj)(wx:World),x=.string (str l)/\y=.int .i64 (j:Int)/\l.length+j<=3/\Src w0 wx B g v zl/\wx.heap.size=H /\
       wr=grow wx ((.cells #[.string nm,.int .i64 3,.int .i64 sc,.bool false] 62)::(.cells #[.bool false,.int .i64 0,.string ⟨#[]⟩] 49)::os))
     (fun _ y _=>(intOf y).toNat)
    case atStart=>exact⟨[],k0,[],wz,rfl,rfl,by simp;omega,hz,hH,rfl⟩
    case round=>
     obtain⟨l,j,os,wx,rfl,rfl,Ak,hx,hH,rfl⟩:=hrel
     by_cases j0:j=0
     ·subst j0
      have Ae:∀os':List Obj,(grow wx os').heap.size=wx.heap.size+os'.length:=fun os'=>Ai0 os' wx
      have Ab:=Src.grow ((.cells #[.string nm,.int .i64 3,.int .i64 sc,.bool false] 62)::(.cells #[.bool false,.int .i64 0,.string ⟨#[]⟩] 49)::os) hx
      have Aj:=hx.gb.size
      have c0:∀i,(grow wx ((.cells #[.string nm,.int .i64 3,.int .i64 sc,.bool false] 62)::(.cells #[.bool false,.int .i64 0,.string ⟨#[]⟩] 49)::os)).cell? ⟨H+1,i,none⟩ =
       ((wx.alloc (.cells #[.string nm,.int .i64 3,.int .i64 sc,.bool false] 62)).alloc (.cells #[.bool false,.int .i64 0,.string ⟨#[]⟩] 49)).cell? ⟨H+1,i,none⟩:=fun i=>Af8 os _ (by simp;omega)
      have f0:∀i,(grow wx ((.cells #[.string nm,.int .i64 3,.int .i64 sc,.bool false] 62)::(.cells #[.bool false,.int .i64 0,.string ⟨#[]⟩] 49)::os)).frozen? ⟨H+1,i,none⟩ =
       ((wx.alloc (.cells #[.string nm,.int .i64 3,.int .i64 sc,.bool false] 62)).alloc (.cells #[.bool false,.int .i64 0,.string ⟨#[]⟩] 49)).frozen? ⟨H+1,i,none⟩:=fun i=>Ae9 os _ (by simp;omega)
      have k0:=c0 0
      have k1:=c0 1
      have k2:=c0 2
      have g0:=f0 0
      have g1:=f0 1
      have g2:=f0 2
      subst hH
      simp at k0 k1 k2 g0 g1 g2
      have Al:=hx.size
      clear hx Ae hz c0 f0 Aa
      generalize grow wx _=wr at *
      go_wp2
      obtain⟨m0,m1,m2⟩:=Ak5 (x:=.bool false) (y:=.int .i64 0) (z:=.string (str l)) k0 k1 k2
      have Af:=((Ab.setO (b:=wx.heap.size+1) (by omega) 0 (.bool false)).setO (b:=wx.heap.size+1) (by omega) 1 (.int .i64 0)).setO (b:=wx.heap.size+1) (by omega) 2 (.string (str l))
      generalize ((wr.setCell ⟨wx.heap.size+1,0,none⟩ (.bool false)).setCell ⟨wx.heap.size+1,1,none⟩ (.int .i64 0)).setCell ⟨wx.heap.size+1,2,none⟩ (.string (str l))=w9 at *
      refine bodyPost_ret (v:=.agg #[.bool false,.int .i64 0,.string (str l)]) (by simp[results,Tryz.results91,go_sem,m0,m1,m2]) rfl ?_
      exact RetS.mk _ _ _ rfl ⟨Am6 l (by omega),fun h=>by cases h⟩ Af
     ·have An:1<=j:=by omega
      clear j0
      go_wp2_with fail
      refine(Ac1 w0 wx _ B g v zl 3 hx (by omega) (by omega)).mono ?_
      rintro e w' ⟨q,wy,rfl,⟨qa,qb⟩,hy,hS,rfl⟩
      rw[hH] at hS
      obtain⟨q,rfl⟩:=Int.eq_ofNat_of_zero_le qa
      have Ag:=Ah1 (P:=Tryz.prog) l 3 (by omega) (by omega)
      have Ac:=fun c m=>Aa (grow wy ((.cells #[.string nm,.int .i64 3,.int .i64 sc,.bool false] 62)::(.cells #[.bool false,.int .i64 0,.string ⟨#[]⟩] 49)::os)) c m
      obtain⟨W,hW⟩:∃W,W=grow wy ((.cells #[.string nm,.int .i64 3,.int .i64 sc,.bool false] 62)::(.cells #[.bool false,.int .i64 0,.string ⟨#[]⟩] 49)::os):=⟨_,rfl⟩
      rw[←hW] at Ac⊢
      have HW:=Hd hW
      have HS:=Hd hS
      clear hW Aa hx hH hz hS
      go_wp2
      go_roundw
      case rel=>exact⟨_,j-1,_,wy,rfl,by go_num,by simp;omega,hy,HS.out.symm,by rw[HW.out,Al3];rfl⟩
      case measure=>simp[intOf]<;>omega
   ·have hq:-700000<n.tmod 700000/\n.tmod 700000<700000:=Ah5 n (by omega)
    have Ad:=bounds_i64 hn
    generalize Ah:n.tmod 700000=q at hq
    go_wp2
    refine bodyPost_ret (v:=.agg #[.bool false,.int .i64 q,.string ⟨#[]⟩]) (by simp[results,Tryz.results91,go_sem]) rfl ?_
    exact RetS.mk _ _ _ rfl ⟨Ad1 (by omega) (by omega) (Q4 (by omega)) (WalkArith.wf_i64 (by omega)),fun h=>by cases h⟩ ((h3.alloc h3.size _).alloc (by simp;have:=h3.size;omega) _)
   ·have hq:-1000000000000000000<n.tmod 1000000000000000000/\n.tmod 1000000000000000000<1000000000000000000:=Ah5 n (by omega)
    have Ad:=bounds_i64 hn
    generalize Ah:n.tmod 1000000000000000000=q at hq
    go_wp2
    refine bodyPost_ret (v:=.agg #[.bool false,.int .i64 q,.string ⟨#[]⟩]) (by simp[results,Tryz.results91,go_sem]) rfl ?_
    exact RetS.mk _ _ _ rfl ⟨Ad1 (by omega) (by omega) (Q4 (by omega)) (WalkArith.wf_i64 (by omega)),fun h=>by cases h⟩ ((h3.alloc h3.size _).alloc (by simp;have:=h3.size;omega) _)
  ·have f1:=Ab3 e1
   have hn:(Lit.int .i64 (r1-2)).wf=true:=WalkArith.wf_i64 (by omega)
   clear e0 e1
   have hr:-2<=r1-2/\r1-2<=4:=by omega
   have As:wrap64 (r1-2)=r1-2:=by unfold wrap64;omega
   obtain⟨n,Ai⟩:∃n,r1-2=n:=⟨_,rfl⟩
   rw[Ai] at hn hr As
   rcases h5 with rfl | rfl | rfl | rfl | rfl
   ·go_wp2
    refine bodyPost_ret (v:=.agg #[.bool false,.int .i64 n,.string ⟨#[]⟩]) (by simp[results,Tryz.results91,go_sem]) rfl ?_
    exact RetS.mk _ _ _ rfl ⟨Ad1 (by omega) (by omega) rfl hn,fun h=>by cases h⟩ ((h2.alloc h2.size _).alloc (by simp;have:=h2.size;omega) _)
   ·have hb:=Aj2 n
    generalize Ao:bits .and .i64 n 1=b at hb
    go_wp2
    refine bodyPost_ret (v:=.agg #[.bool false,.int .i64 b,.string ⟨#[]⟩]) (by simp[results,Tryz.results91,go_sem]) rfl ?_
    exact RetS.mk _ _ _ rfl ⟨Ad1 (by omega) (by omega) (by rcases hb with rfl | rfl<;>rfl) (by rcases hb with rfl | rfl<;>decide),fun h=>by cases h⟩ ((h2.alloc h2.size _).alloc (by simp;have:=h2.size;omega) _)
   ·try subst Ai
    go_wp2_with fail
    refine(Ac1 w0 w2 [_,_] B g v zl 4 h2 (by omega) (by omega)).mono ?_
    rintro e w' ⟨k,wz,rfl,⟨ka,kb⟩,hz,hS,rfl⟩
    simp only[grow]
    rw[hS]
    clear hS h2
    obtain⟨k0,rfl⟩:=Int.eq_ofNat_of_zero_le ka
    have Aa:=Ae8 (P:=Tryz.prog) 41 9 5 Tryz.underlying41 Tryz.underlying5 Tryz.underlying9
    go_wp2_with fail
    generalize hH:wz.heap.size=H at *
    go_loopw[6,7] (fun x y wr=>∃(l:List UInt8)(j:Nat)(os:List Obj)(wx:World),x=.string (str l)/\y=.int .i64 (j:Int)/\l.length+j<=3/\Src w0 wx B g v zl/\wx.heap.size=H /\
       wr=grow wx ((.cells #[.string nm,.int .i64 3,.int .i64 sc,.bool false] 62)::(.cells #[.bool false,.int .i64 0,.string ⟨#[]⟩] 49)::os))
     (fun _ y _=>(intOf y).toNat)
    case atStart=>exact⟨[],k0,[],wz,rfl,rfl,by simp;omega,hz,hH,rfl⟩
    case round=>
     obtain⟨l,j,os,wx,rfl,rfl,Ak,hx,hH,rfl⟩:=hrel
     by_cases j0:j=0
     ·subst j0
      have Ae:∀os':List Obj,(grow wx os').heap.size=wx.heap.size+os'.length:=fun os'=>Ai0 os' wx
      have Ab:=Src.grow ((.cells #[.string nm,.int .i64 3,.int .i64 sc,.bool false] 62)::(.cells #[.bool false,.int .i64 0,.string ⟨#[]⟩] 49)::os) hx
      have Aj:=hx.gb.size
      have c0:∀i,(grow wx ((.cells #[.string nm,.int .i64 3,.int .i64 sc,.bool false] 62)::(.cells #[.bool false,.int .i64 0,.string ⟨#[]⟩] 49)::os)).cell? ⟨H+1,i,none⟩ =
       ((wx.alloc (.cells #[.string nm,.int .i64 3,.int .i64 sc,.bool false] 62)).alloc (.cells #[.bool false,.int .i64 0,.string ⟨#[]⟩] 49)).cell? ⟨H+1,i,none⟩:=fun i=>Af8 os _ (by simp;omega)
      have f0:∀i,(grow wx ((.cells #[.string nm,.int .i64 3,.int .i64 sc,.bool false] 62)::(.cells #[.bool false,.int .i64 0,.string ⟨#[]⟩] 49)::os)).frozen? ⟨H+1,i,none⟩ =
       ((wx.alloc (.cells #[.string nm,.int .i64 3,.int .i64 sc,.bool false] 62)).alloc (.cells #[.bool false,.int .i64 0,.string ⟨#[]⟩] 49)).frozen? ⟨H+1,i,none⟩:=fun i=>Ae9 os _ (by simp;omega)
      have k0:=c0 0
      have k1:=c0 1
      have k2:=c0 2
      have g0:=f0 0
      have g1:=f0 1
      have g2:=f0 2
      subst hH
      simp at k0 k1 k2 g0 g1 g2
      have Al:=hx.size
      clear hx Ae hz c0 f0 Aa
      generalize grow wx _=wr at *
      go_wp2
      obtain⟨m0,m1,m2⟩:=Ak5 (x:=.bool false) (y:=.int .i64 0) (z:=.string (str l)) k0 k1 k2
      have Af:=((Ab.setO (b:=wx.heap.size+1) (by omega) 0 (.bool false)).setO (b:=wx.heap.size+1) (by omega) 1 (.int .i64 0)).setO (b:=wx.heap.size+1) (by omega) 2 (.string (str l))
      generalize ((wr.setCell ⟨wx.heap.size+1,0,none⟩ (.bool false)).setCell ⟨wx.heap.size+1,1,none⟩ (.int .i64 0)).setCell ⟨wx.heap.size+1,2,none⟩ (.string (str l))=w9 at *
      refine bodyPost_ret (v:=.agg #[.bool false,.int .i64 0,.string (str l)]) (by simp[results,Tryz.results91,go_sem,m0,m1,m2]) rfl ?_
      exact RetS.mk _ _ _ rfl ⟨Am6 l (by omega),fun h=>by cases h⟩ Af
     ·have An:1<=j:=by omega
      clear j0
      go_wp2_with fail
      refine(Ac1 w0 wx _ B g v zl 3 hx (by omega) (by omega)).mono ?_
      rintro e w' ⟨q,wy,rfl,⟨qa,qb⟩,hy,hS,rfl⟩
      rw[hH] at hS
      obtain⟨q,rfl⟩:=Int.eq_ofNat_of_zero_le qa
      have Ag:=Ah1 (P:=Tryz.prog) l 3 (by omega) (by omega)
      have Ac:=fun c m=>Aa (grow wy ((.cells #[.string nm,.int .i64 3,.int .i64 sc,.bool false] 62)::(.cells #[.bool false,.int .i64 0,.string ⟨#[]⟩] 49)::os)) c m
      obtain⟨W,hW⟩:∃W,W=grow wy ((.cells #[.string nm,.int .i64 3,.int .i64 sc,.bool false] 62)::(.cells #[.bool false,.int .i64 0,.string ⟨#[]⟩] 49)::os):=⟨_,rfl⟩
      rw[←hW] at Ac⊢
      have HW:=Hd hW
      have HS:=Hd hS
      clear hW Aa hx hH hz hS
      go_wp2
      go_roundw
      case rel=>exact⟨_,j-1,_,wy,rfl,by go_num,by simp;omega,hy,HS.out.symm,by rw[HW.out,Al3];rfl⟩
      case measure=>simp[intOf]<;>omega
   ·have hq:-700000<n.tmod 700000/\n.tmod 700000<700000:=Ah5 n (by omega)
    have Ad:=bounds_i64 hn
    generalize Ah:n.tmod 700000=q at hq
    go_wp2
    refine bodyPost_ret (v:=.agg #[.bool false,.int .i64 q,.string ⟨#[]⟩]) (by simp[results,Tryz.results91,go_sem]) rfl ?_
    exact RetS.mk _ _ _ rfl ⟨Ad1 (by omega) (by omega) (Q4 (by omega)) (WalkArith.wf_i64 (by omega)),fun h=>by cases h⟩ ((h2.alloc h2.size _).alloc (by simp;have:=h2.size;omega) _)
   ·have hq:-1000000000000000000<n.tmod 1000000000000000000/\n.tmod 1000000000000000000<1000000000000000000:=Ah5 n (by omega)
    have Ad:=bounds_i64 hn
    generalize Ah:n.tmod 1000000000000000000=q at hq
    go_wp2
    refine bodyPost_ret (v:=.agg #[.bool false,.int .i64 q,.string ⟨#[]⟩]) (by simp[results,Tryz.results91,go_sem]) rfl ?_
    exact RetS.mk _ _ _ rfl ⟨Ad1 (by omega) (by omega) (Q4 (by omega)) (WalkArith.wf_i64 (by omega)),fun h=>by cases h⟩ ((h2.alloc h2.size _).alloc (by simp;have:=h2.size;omega) _)
theorem Dj5(w0 w:World)(B g:Nat)(v:Value)(zl:List Int)(nm:ByteArray)(ty sc:Int)(hs:Src w0 w B g v zl)(Ax:1<=ty/\ty<=5):
   Calls Tryz.prog 91 #[.pointer (some ⟨g,0,none⟩),(.agg #[.string nm,.int .i64 ty,.int .i64 sc,.bool true])] w (RetS (fun nul n s=>VOK ty nul n s/\(nul=true->true=true)) w0 B g v zl):=by
 have h5:ty=1\/ty=2\/ty=3\/ty=4\/ty=5:=by omega
 go_enter Tryz.func91,Tryz.ntmps91
 go_wp2_with fail
 refine(Ac1 w0 w [_,_] B g v zl 4 hs (by omega) (by omega)).mono ?_
 rintro e w' ⟨r0,wn,rfl,⟨Ba,Bc⟩,Ah,hS,rfl⟩
 simp only[grow]
 rw[hS]
 clear hS hs
 by_cases z0:r0=0
 ·subst z0
  go_wp2
  refine bodyPost_ret (v:=.agg #[.bool true,.int .i64 0,.string ⟨#[]⟩]) (by simp[results,Tryz.results91,go_sem]) rfl ?_
  exact RetS.mk _ _ _ rfl ⟨Ew6 Ax,fun _=>by trivial⟩ ((Ah.alloc Ah.size _).alloc (by simp;have:=Ah.size;omega) _)
 ·have g0:=Ab3 z0
  clear z0
  go_wp2_with fail
  refine(Ac1 w0 wn [_,_] B g v zl 7 Ah (by omega) (by omega)).mono ?_
  rintro e w' ⟨r1,w1,rfl,⟨Bb,Az⟩,h1,hS,rfl⟩
  simp only[grow]
  rw[hS]
  clear hS Ah
  go_wp2_with fail
  refine(Ac1 w0 w1 [_,_] B g v zl 8 h1 (by omega) (by omega)).mono ?_
  rintro e w' ⟨r2,w2,rfl,⟨Ay,Bd⟩,h2,hS,rfl⟩
  simp only[grow]
  rw[hS]
  clear hS h1
  by_cases e0:r2=0
  ·subst e0
   go_wp2_with fail
   refine(Bd6 w0 w2 [_,_] B g v zl h2).mono ?_
   rintro e w' ⟨n,w3,rfl,hn,h3,hS,rfl⟩
   simp only[grow]
   rw[hS]
   clear hS h2
   rcases h5 with rfl | rfl | rfl | rfl | rfl
   ·go_wp2
    refine bodyPost_ret (v:=.agg #[.bool false,.int .i64 n,.string ⟨#[]⟩]) (by simp[results,Tryz.results91,go_sem]) rfl ?_
    exact RetS.mk _ _ _ rfl ⟨Ad1 (by omega) (by omega) rfl hn,fun h=>by cases h⟩ ((h3.alloc h3.size _).alloc (by simp;have:=h3.size;omega) _)
   ·have hb:=Aj2 n
    generalize Ap:bits .and .i64 n 1=b at hb
    go_wp2
    refine bodyPost_ret (v:=.agg #[.bool false,.int .i64 b,.string ⟨#[]⟩]) (by simp[results,Tryz.results91,go_sem]) rfl ?_
    exact RetS.mk _ _ _ rfl ⟨Ad1 (by omega) (by omega) (by rcases hb with rfl | rfl<;>rfl) (by rcases hb with rfl | rfl<;>decide),fun h=>by cases h⟩ ((h3.alloc h3.size _).alloc (by simp;have:=h3.size;omega) _)
   ·try subst Aj
    go_wp2_with fail
    refine(Ac1 w0 w3 [_,_] B g v zl 4 h3 (by omega) (by omega)).mono ?_
    rintro e w' ⟨k,wz,rfl,⟨ka,kb⟩,hz,hS,rfl⟩
    simp only[grow]
    rw[hS]
    clear hS h3
    obtain⟨k0,rfl⟩:=Int.eq_ofNat_of_zero_le ka
    have Aa:=Ae8 (P:=Tryz.prog) 41 9 5 Tryz.underlying41 Tryz.underlying5 Tryz.underlying9
    go_wp2_with fail
    generalize hH:wz.heap.size=H at *
    go_loopw[6,7] (fun x y wr=>∃(l:List UInt8)(j:Nat)(os:List Obj)(wx:World),x=.string (str l)/\y=.int .i64 (j:Int)/\l.length+j<=3/\Src w0 wx B g v zl/\wx.heap.size=H /\
       wr=grow wx ((.cells #[.string nm,.int .i64 3,.int .i64 sc,.bool true] 62)::(.cells #[.bool false,.int .i64 0,.string ⟨#[]⟩] 49)::os))
     (fun _ y _=>(intOf y).toNat)
    case atStart=>exact⟨[],k0,[],wz,rfl,rfl,by simp;omega,hz,hH,rfl⟩
    case round=>
     obtain⟨l,j,os,wx,rfl,rfl,Al,hx,hH,rfl⟩:=hrel
     by_cases j0:j=0
     ·subst j0
      have Ae:∀os':List Obj,(grow wx os').heap.size=wx.heap.size+os'.length:=fun os'=>Ai0 os' wx
      have Ab:=Src.grow ((.cells #[.string nm,.int .i64 3,.int .i64 sc,.bool true] 62)::(.cells #[.bool false,.int .i64 0,.string ⟨#[]⟩] 49)::os) hx
      have Ak:=hx.gb.size
      have c0:∀i,(grow wx ((.cells #[.string nm,.int .i64 3,.int .i64 sc,.bool true] 62)::(.cells #[.bool false,.int .i64 0,.string ⟨#[]⟩] 49)::os)).cell? ⟨H+1,i,none⟩ =
       ((wx.alloc (.cells #[.string nm,.int .i64 3,.int .i64 sc,.bool true] 62)).alloc (.cells #[.bool false,.int .i64 0,.string ⟨#[]⟩] 49)).cell? ⟨H+1,i,none⟩:=fun i=>Af8 os _ (by simp;omega)
      have f0:∀i,(grow wx ((.cells #[.string nm,.int .i64 3,.int .i64 sc,.bool true] 62)::(.cells #[.bool false,.int .i64 0,.string ⟨#[]⟩] 49)::os)).frozen? ⟨H+1,i,none⟩ =
       ((wx.alloc (.cells #[.string nm,.int .i64 3,.int .i64 sc,.bool true] 62)).alloc (.cells #[.bool false,.int .i64 0,.string ⟨#[]⟩] 49)).frozen? ⟨H+1,i,none⟩:=fun i=>Ae9 os _ (by simp;omega)
      have k0:=c0 0
      have k1:=c0 1
      have k2:=c0 2
      have g0:=f0 0
      have g1:=f0 1
      have g2:=f0 2
      subst hH
      simp at k0 k1 k2 g0 g1 g2
      have An:=hx.size
      clear hx Ae hz c0 f0 Aa
      generalize grow wx _=wr at *
      go_wp2
      obtain⟨m0,m1,m2⟩:=Ak5 (x:=.bool false) (y:=.int .i64 0) (z:=.string (str l)) k0 k1 k2
      have Af:=((Ab.setO (b:=wx.heap.size+1) (by omega) 0 (.bool false)).setO (b:=wx.heap.size+1) (by omega) 1 (.int .i64 0)).setO (b:=wx.heap.size+1) (by omega) 2 (.string (str l))
      generalize ((wr.setCell ⟨wx.heap.size+1,0,none⟩ (.bool false)).setCell ⟨wx.heap.size+1,1,none⟩ (.int .i64 0)).setCell ⟨wx.heap.size+1,2,none⟩ (.string (str l))=w9 at *
      refine bodyPost_ret (v:=.agg #[.bool false,.int .i64 0,.string (str l)]) (by simp[results,Tryz.results91,go_sem,m0,m1,m2]) rfl ?_
      exact RetS.mk _ _ _ rfl ⟨Am6 l (by omega),fun h=>by cases h⟩ Af
     ·have Ao:1<=j:=by omega
      clear j0
      go_wp2_with fail
      refine(Ac1 w0 wx _ B g v zl 3 hx (by omega) (by omega)).mono ?_
      rintro e w' ⟨q,wy,rfl,⟨qa,qb⟩,hy,hS,rfl⟩
      rw[hH] at hS
      obtain⟨q,rfl⟩:=Int.eq_ofNat_of_zero_le qa
      have Ag:=Ah1 (P:=Tryz.prog) l 3 (by omega) (by omega)
      have Ac:=fun c m=>Aa (grow wy ((.cells #[.string nm,.int .i64 3,.int .i64 sc,.bool true] 62)::(.cells #[.bool false,.int .i64 0,.string ⟨#[]⟩] 49)::os)) c m
      obtain⟨W,hW⟩:∃W,W=grow wy ((.cells #[.string nm,.int .i64 3,.int .i64 sc,.bool true] 62)::(.cells #[.bool false,.int .i64 0,.string ⟨#[]⟩] 49)::os):=⟨_,rfl⟩
      rw[←hW] at Ac⊢
      have HW:=Hd hW
      have HS:=Hd hS
      clear hW Aa hx hH hz hS
      go_wp2
      go_roundw
      case rel=>exact⟨_,j-1,_,wy,rfl,by go_num,by simp;omega,hy,HS.out.symm,by rw[HW.out,Al3];rfl⟩
      case measure=>simp[intOf]<;>omega
   ·have hq:-700000<n.tmod 700000/\n.tmod 700000<700000:=Ah5 n (by omega)
    have Ad:=bounds_i64 hn
    generalize Ai:n.tmod 700000=q at hq
    go_wp2
    refine bodyPost_ret (v:=.agg #[.bool false,.int .i64 q,.string ⟨#[]⟩]) (by simp[results,Tryz.results91,go_sem]) rfl ?_
    exact RetS.mk _ _ _ rfl ⟨Ad1 (by omega) (by omega) (Q4 (by omega)) (WalkArith.wf_i64 (by omega)),fun h=>by cases h⟩ ((h3.alloc h3.size _).alloc (by simp;have:=h3.size;omega) _)
   ·have hq:-1000000000000000000<n.tmod 1000000000000000000/\n.tmod 1000000000000000000<1000000000000000000:=Ah5 n (by omega)
    have Ad:=bounds_i64 hn
    generalize Ai:n.tmod 1000000000000000000=q at hq
    go_wp2
    refine bodyPost_ret (v:=.agg #[.bool false,.int .i64 q,.string ⟨#[]⟩]) (by simp[results,Tryz.results91,go_sem]) rfl ?_
    exact RetS.mk _ _ _ rfl ⟨Ad1 (by omega) (by omega) (Q4 (by omega)) (WalkArith.wf_i64 (by omega)),fun h=>by cases h⟩ ((h3.alloc h3.size _).alloc (by simp;have:=h3.size;omega) _)
  ·have f0:=Ab3 e0
   by_cases e1:r2=1
   ·subst e1
    clear e0 f0
    go_wp2_with fail
    refine(Bd6 w0 w2 [_,_] B g v zl h2).mono ?_
    rintro e w' ⟨n0,w3,rfl,Ar,h3,hS,rfl⟩
    simp only[grow]
    rw[hS]
    clear hS h2
    have Aq:-1000<n0.tmod 1000/\n0.tmod 1000<1000:=Ah5 n0 (by omega)
    have Aw:=bounds_i64 Ar
    generalize As:n0.tmod 1000=n at Aq
    have hn:(Lit.int .i64 n).wf=true:=WalkArith.wf_i64 (by omega)
    rcases h5 with rfl | rfl | rfl | rfl | rfl
    ·go_wp2
     refine bodyPost_ret (v:=.agg #[.bool false,.int .i64 n,.string ⟨#[]⟩]) (by simp[results,Tryz.results91,go_sem]) rfl ?_
     exact RetS.mk _ _ _ rfl ⟨Ad1 (by omega) (by omega) rfl hn,fun h=>by cases h⟩ ((h3.alloc h3.size _).alloc (by simp;have:=h3.size;omega) _)
    ·have hb:=Aj2 n
     generalize Ap:bits .and .i64 n 1=b at hb
     go_wp2
     refine bodyPost_ret (v:=.agg #[.bool false,.int .i64 b,.string ⟨#[]⟩]) (by simp[results,Tryz.results91,go_sem]) rfl ?_
     exact RetS.mk _ _ _ rfl ⟨Ad1 (by omega) (by omega) (by rcases hb with rfl | rfl<;>rfl) (by rcases hb with rfl | rfl<;>decide),fun h=>by cases h⟩ ((h3.alloc h3.size _).alloc (by simp;have:=h3.size;omega) _)
    ·try subst Aj
     go_wp2_with fail
     refine(Ac1 w0 w3 [_,_] B g v zl 4 h3 (by omega) (by omega)).mono ?_
     rintro e w' ⟨k,wz,rfl,⟨ka,kb⟩,hz,hS,rfl⟩
     simp only[grow]
     rw[hS]
     clear hS h3
     obtain⟨k0,rfl⟩:=Int.eq_ofNat_of_zero_le ka
     have Aa:=Ae8 (P:=Tryz.prog) 41 9 5 Tryz.underlying41 Tryz.underlying5 Tryz.underlying9
     go_wp2_with fail
     generalize hH:wz.heap.size=H at *
     go_loopw[6,7] (fun x y wr=>∃(l:List UInt8)(j:Nat)(os:List Obj)(wx:World),x=.string (str l)/\y=.int .i64 (j:Int)/\l.length+j<=3/\Src w0 wx B g v zl/\wx.heap.size=H /\
        wr=grow wx ((.cells #[.string nm,.int .i64 3,.int .i64 sc,.bool true] 62)::(.cells #[.bool false,.int .i64 0,.string ⟨#[]⟩] 49)::os))
      (fun _ y _=>(intOf y).toNat)
     case atStart=>exact⟨[],k0,[],wz,rfl,rfl,by simp;omega,hz,hH,rfl⟩
     case round=>
      obtain⟨l,j,os,wx,rfl,rfl,Al,hx,hH,rfl⟩:=hrel
      by_cases j0:j=0
      ·subst j0
       have Ae:∀os':List Obj,(grow wx os').heap.size=wx.heap.size+os'.length:=fun os'=>Ai0 os' wx
       have Ab:=Src.grow ((.cells #[.string nm,.int .i64 3,.int .i64 sc,.bool true] 62)::(.cells #[.bool false,.int .i64 0,.string ⟨#[]⟩] 49)::os) hx
       have Ak:=hx.gb.size
       have c0:∀i,(grow wx ((.cells #[.string nm,.int .i64 3,.int .i64 sc,.bool true] 62)::(.cells #[.bool false,.int .i64 0,.string ⟨#[]⟩] 49)::os)).cell? ⟨H+1,i,none⟩ =
        ((wx.alloc (.cells #[.string nm,.int .i64 3,.int .i64 sc,.bool true] 62)).alloc (.cells #[.bool false,.int .i64 0,.string ⟨#[]⟩] 49)).cell? ⟨H+1,i,none⟩:=fun i=>Af8 os _ (by simp;omega)
       have f0:∀i,(grow wx ((.cells #[.string nm,.int .i64 3,.int .i64 sc,.bool true] 62)::(.cells #[.bool false,.int .i64 0,.string ⟨#[]⟩] 49)::os)).frozen? ⟨H+1,i,none⟩ =
        ((wx.alloc (.cells #[.string nm,.int .i64 3,.int .i64 sc,.bool true] 62)).alloc (.cells #[.bool false,.int .i64 0,.string ⟨#[]⟩] 49)).frozen? ⟨H+1,i,none⟩:=fun i=>Ae9 os _ (by simp;omega)
       have k0:=c0 0
       have k1:=c0 1
       have k2:=c0 2
       have g0:=f0 0
       have g1:=f0 1
       have g2:=f0 2
       subst hH
       simp at k0 k1 k2 g0 g1 g2
       have An:=hx.size
       clear hx Ae hz c0 f0 Aa
       generalize grow wx _=wr at *
       go_wp2
       obtain⟨m0,m1,m2⟩:=Ak5 (x:=.bool false) (y:=.int .i64 0) (z:=.string (str l)) k0 k1 k2
       have Af:=((Ab.setO (b:=wx.heap.size+1) (by omega) 0 (.bool false)).setO (b:=wx.heap.size+1) (by omega) 1 (.int .i64 0)).setO (b:=wx.heap.size+1) (by omega) 2 (.string (str l))
       generalize ((wr.setCell ⟨wx.heap.size+1,0,none⟩ (.bool false)).setCell ⟨wx.heap.size+1,1,none⟩ (.int .i64 0)).setCell ⟨wx.heap.size+1,2,none⟩ (.string (str l))=w9 at *
       refine bodyPost_ret (v:=.agg #[.bool false,.int .i64 0,.string (str l)]) (by simp[results,Tryz.results91,go_sem,m0,m1,m2]) rfl ?_
       exact RetS.mk _ _ _ rfl ⟨Am6 l (by omega),fun h=>by cases h⟩ Af
      ·have Ao:1<=j:=by omega
       clear j0
       go_wp2_with fail
       refine(Ac1 w0 wx _ B g v zl 3 hx (by omega) (by omega)).mono ?_
       rintro e w' ⟨q,wy,rfl,⟨qa,qb⟩,hy,hS,rfl⟩
       rw[hH] at hS
       obtain⟨q,rfl⟩:=Int.eq_ofNat_of_zero_le qa
       have Ag:=Ah1 (P:=Tryz.prog) l 3 (by omega) (by omega)
       have Ac:=fun c m=>Aa (grow wy ((.cells #[.string nm,.int .i64 3,.int .i64 sc,.bool true] 62)::(.cells #[.bool false,.int .i64 0,.string ⟨#[]⟩] 49)::os)) c m
       obtain⟨W,hW⟩:∃W,W=grow wy ((.cells #[.string nm,.int .i64 3,.int .i64 sc,.bool true] 62)::(.cells #[.bool false,.int .i64 0,.string ⟨#[]⟩] 49)::os):=⟨_,rfl⟩
       rw[←hW] at Ac⊢
       have HW:=Hd hW
       have HS:=Hd hS
       clear hW Aa hx hH hz hS
       go_wp2
       go_roundw
       case rel=>exact⟨_,j-1,_,wy,rfl,by go_num,by simp;omega,hy,HS.out.symm,by rw[HW.out,Al3];rfl⟩
       case measure=>simp[intOf]<;>omega
    ·have hq:-700000<n.tmod 700000/\n.tmod 700000<700000:=Ah5 n (by omega)
     have Ad:=bounds_i64 hn
     generalize Ai:n.tmod 700000=q at hq
     go_wp2
     refine bodyPost_ret (v:=.agg #[.bool false,.int .i64 q,.string ⟨#[]⟩]) (by simp[results,Tryz.results91,go_sem]) rfl ?_
     exact RetS.mk _ _ _ rfl ⟨Ad1 (by omega) (by omega) (Q4 (by omega)) (WalkArith.wf_i64 (by omega)),fun h=>by cases h⟩ ((h3.alloc h3.size _).alloc (by simp;have:=h3.size;omega) _)
    ·have hq:-1000000000000000000<n.tmod 1000000000000000000/\n.tmod 1000000000000000000<1000000000000000000:=Ah5 n (by omega)
     have Ad:=bounds_i64 hn
     generalize Ai:n.tmod 1000000000000000000=q at hq
     go_wp2
     refine bodyPost_ret (v:=.agg #[.bool false,.int .i64 q,.string ⟨#[]⟩]) (by simp[results,Tryz.results91,go_sem]) rfl ?_
     exact RetS.mk _ _ _ rfl ⟨Ad1 (by omega) (by omega) (Q4 (by omega)) (WalkArith.wf_i64 (by omega)),fun h=>by cases h⟩ ((h3.alloc h3.size _).alloc (by simp;have:=h3.size;omega) _)
   ·have f1:=Ab3 e1
    have hn:(Lit.int .i64 (r1-2)).wf=true:=WalkArith.wf_i64 (by omega)
    clear e0 e1
    have hr:-2<=r1-2/\r1-2<=4:=by omega
    have Au:wrap64 (r1-2)=r1-2:=by unfold wrap64;omega
    obtain⟨n,Aj⟩:∃n,r1-2=n:=⟨_,rfl⟩
    rw[Aj] at hn hr Au
    rcases h5 with rfl | rfl | rfl | rfl | rfl
    ·go_wp2
     refine bodyPost_ret (v:=.agg #[.bool false,.int .i64 n,.string ⟨#[]⟩]) (by simp[results,Tryz.results91,go_sem]) rfl ?_
     exact RetS.mk _ _ _ rfl ⟨Ad1 (by omega) (by omega) rfl hn,fun h=>by cases h⟩ ((h2.alloc h2.size _).alloc (by simp;have:=h2.size;omega) _)
    ·have hb:=Aj2 n
     generalize Ap:bits .and .i64 n 1=b at hb
     go_wp2
     refine bodyPost_ret (v:=.agg #[.bool false,.int .i64 b,.string ⟨#[]⟩]) (by simp[results,Tryz.results91,go_sem]) rfl ?_
     exact RetS.mk _ _ _ rfl ⟨Ad1 (by omega) (by omega) (by rcases hb with rfl | rfl<;>rfl) (by rcases hb with rfl | rfl<;>decide),fun h=>by cases h⟩ ((h2.alloc h2.size _).alloc (by simp;have:=h2.size;omega) _)
    ·try subst Aj
     go_wp2_with fail
     refine(Ac1 w0 w2 [_,_] B g v zl 4 h2 (by omega) (by omega)).mono ?_
     rintro e w' ⟨k,wz,rfl,⟨ka,kb⟩,hz,hS,rfl⟩
     simp only[grow]
     rw[hS]
     clear hS h2
     obtain⟨k0,rfl⟩:=Int.eq_ofNat_of_zero_le ka
     have Aa:=Ae8 (P:=Tryz.prog) 41 9 5 Tryz.underlying41 Tryz.underlying5 Tryz.underlying9
     go_wp2_with fail
     generalize hH:wz.heap.size=H at *
     go_loopw[6,7] (fun x y wr=>∃(l:List UInt8)(j:Nat)(os:List Obj)(wx:World),x=.string (str l)/\y=.int .i64 (j:Int)/\l.length+j<=3/\Src w0 wx B g v zl/\wx.heap.size=H /\
        wr=grow wx ((.cells #[.string nm,.int .i64 3,.int .i64 sc,.bool true] 62)::(.cells #[.bool false,.int .i64 0,.string ⟨#[]⟩] 49)::os))
      (fun _ y _=>(intOf y).toNat)
     case atStart=>exact⟨[],k0,[],wz,rfl,rfl,by simp;omega,hz,hH,rfl⟩
     case round=>
      obtain⟨l,j,os,wx,rfl,rfl,Al,hx,hH,rfl⟩:=hrel
      by_cases j0:j=0
      ·subst j0
       have Ae:∀os':List Obj,(grow wx os').heap.size=wx.heap.size+os'.length:=fun os'=>Ai0 os' wx
       have Ab:=Src.grow ((.cells #[.string nm,.int .i64 3,.int .i64 sc,.bool true] 62)::(.cells #[.bool false,.int .i64 0,.string ⟨#[]⟩] 49)::os) hx
       have Ak:=hx.gb.size
       have c0:∀i,(grow wx ((.cells #[.string nm,.int .i64 3,.int .i64 sc,.bool true] 62)::(.cells #[.bool false,.int .i64 0,.string ⟨#[]⟩] 49)::os)).cell? ⟨H+1,i,none⟩ =
        ((wx.alloc (.cells #[.string nm,.int .i64 3,.int .i64 sc,.bool true] 62)).alloc (.cells #[.bool false,.int .i64 0,.string ⟨#[]⟩] 49)).cell? ⟨H+1,i,none⟩:=fun i=>Af8 os _ (by simp;omega)
       have f0:∀i,(grow wx ((.cells #[.string nm,.int .i64 3,.int .i64 sc,.bool true] 62)::(.cells #[.bool false,.int .i64 0,.string ⟨#[]⟩] 49)::os)).frozen? ⟨H+1,i,none⟩ =
        ((wx.alloc (.cells #[.string nm,.int .i64 3,.int .i64 sc,.bool true] 62)).alloc (.cells #[.bool false,.int .i64 0,.string ⟨#[]⟩] 49)).frozen? ⟨H+1,i,none⟩:=fun i=>Ae9 os _ (by simp;omega)
       have k0:=c0 0
       have k1:=c0 1
       have k2:=c0 2
       have g0:=f0 0
       have g1:=f0 1
       have g2:=f0 2
       subst hH
       simp at k0 k1 k2 g0 g1 g2
       have An:=hx.size
       clear hx Ae hz c0 f0 Aa
       generalize grow wx _=wr at *
       go_wp2
       obtain⟨m0,m1,m2⟩:=Ak5 (x:=.bool false) (y:=.int .i64 0) (z:=.string (str l)) k0 k1 k2
       have Af:=((Ab.setO (b:=wx.heap.size+1) (by omega) 0 (.bool false)).setO (b:=wx.heap.size+1) (by omega) 1 (.int .i64 0)).setO (b:=wx.heap.size+1) (by omega) 2 (.string (str l))
       generalize ((wr.setCell ⟨wx.heap.size+1,0,none⟩ (.bool false)).setCell ⟨wx.heap.size+1,1,none⟩ (.int .i64 0)).setCell ⟨wx.heap.size+1,2,none⟩ (.string (str l))=w9 at *
       refine bodyPost_ret (v:=.agg #[.bool false,.int .i64 0,.string (str l)]) (by simp[results,Tryz.results91,go_sem,m0,m1,m2]) rfl ?_
       exact RetS.mk _ _ _ rfl ⟨Am6 l (by omega),fun h=>by cases h⟩ Af
      ·have Ao:1<=j:=by omega
       clear j0
       go_wp2_with fail
       refine(Ac1 w0 wx _ B g v zl 3 hx (by omega) (by omega)).mono ?_
       rintro e w' ⟨q,wy,rfl,⟨qa,qb⟩,hy,hS,rfl⟩
       rw[hH] at hS
       obtain⟨q,rfl⟩:=Int.eq_ofNat_of_zero_le qa
       have Ag:=Ah1 (P:=Tryz.prog) l 3 (by omega) (by omega)
       have Ac:=fun c m=>Aa (grow wy ((.cells #[.string nm,.int .i64 3,.int .i64 sc,.bool true] 62)::(.cells #[.bool false,.int .i64 0,.string ⟨#[]⟩] 49)::os)) c m
       obtain⟨W,hW⟩:∃W,W=grow wy ((.cells #[.string nm,.int .i64 3,.int .i64 sc,.bool true] 62)::(.cells #[.bool false,.int .i64 0,.string ⟨#[]⟩] 49)::os):=⟨_,rfl⟩
       rw[←hW] at Ac⊢
       have HW:=Hd hW
       have HS:=Hd hS
       clear hW Aa hx hH hz hS
       go_wp2
       go_roundw
       case rel=>exact⟨_,j-1,_,wy,rfl,by go_num,by simp;omega,hy,HS.out.symm,by rw[HW.out,Al3];rfl⟩
       case measure=>simp[intOf]<;>omega
    ·have hq:-700000<n.tmod 700000/\n.tmod 700000<700000:=Ah5 n (by omega)
     have Ad:=bounds_i64 hn
     generalize Ai:n.tmod 700000=q at hq
     go_wp2
     refine bodyPost_ret (v:=.agg #[.bool false,.int .i64 q,.string ⟨#[]⟩]) (by simp[results,Tryz.results91,go_sem]) rfl ?_
     exact RetS.mk _ _ _ rfl ⟨Ad1 (by omega) (by omega) (Q4 (by omega)) (WalkArith.wf_i64 (by omega)),fun h=>by cases h⟩ ((h2.alloc h2.size _).alloc (by simp;have:=h2.size;omega) _)
    ·have hq:-1000000000000000000<n.tmod 1000000000000000000/\n.tmod 1000000000000000000<1000000000000000000:=Ah5 n (by omega)
     have Ad:=bounds_i64 hn
     generalize Ai:n.tmod 1000000000000000000=q at hq
     go_wp2
     refine bodyPost_ret (v:=.agg #[.bool false,.int .i64 q,.string ⟨#[]⟩]) (by simp[results,Tryz.results91,go_sem]) rfl ?_
     exact RetS.mk _ _ _ rfl ⟨Ad1 (by omega) (by omega) (Q4 (by omega)) (WalkArith.wf_i64 (by omega)),fun h=>by cases h⟩ ((h2.alloc h2.size _).alloc (by simp;have:=h2.size;omega) _)
end Go.P
namespace Go.CK
open RowKit VB VS VL KV
end Go.CK
namespace Go.P
open RowKit VB VS VL CK KV
theorem Dl5(x y:Value)(l:List Vl)(w:World)(hx:RdL w w.heap.size x l)(hy:RdL w w.heap.size y l):Calls Tryz.prog 32 #[x,y] w (RetB (.bool true) w):=by
 obtain⟨A,c,_,rfl,rfl,Ag,Ae⟩:=hx.bds
 obtain⟨A',c',_,rfl,rfl,Ac,Ad⟩:=hy.bds
 have HX:=Hd hx;have HY:=Hd hy;clear hx hy
 go_enter Tryz.func32,Tryz.ntmps32
 go_wp2
 go_loopw[13] (fun i wr=>∃j:Nat,i=.int .i64 j/\j<=l.length/\Below w.heap.size w wr) (fun i _=>l.length-(intOf i).toNat)
 case atStart=>exact⟨0,rfl,Nat.zero_le _,Q2 _ _⟩
 case round=>
  obtain⟨j,rfl,hj,Aa⟩:=hrel
  by_cases hlt:j<l.length
  ·have Ab:l[j]?=some l[j]:=Q7 hlt
   obtain⟨ad,rfl,_,q0,q1,q2⟩:=(HX.out.below Aa).at Ab
   obtain⟨Af,rfl,_,p0,p1,p2⟩:=(HY.out.below Aa).at Ab
   clear Ab
   generalize l[j]=V at q0 q1 q2 p0 p1 p2
   obtain⟨vb,vn,vs⟩:=V
   simp only at q0 q1 q2 p0 p1 p2
   go_wp2_with fail
   go_region
   go_wp2_with fail
   go_roundw
   case rel=>exact⟨j+1,by go_num,hlt,Aa.drew⟩
   case measure=>simp[intOf]<;>omega
  ·go_wp2
   go_ret
   exact RetB.mk rfl Aa
end Go.P
