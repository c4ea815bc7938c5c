/- Sorted dictionaries: the order of texts, the different texts of a list in ascending order, their places, the encoding, and what Decode finds. -/
import Derived.Test.YtnmlajmaffiigaaGreatDoorGr
import Derived.Test.YtnmlajmaffiigaaGreatDoorGn
import Derived.Deep.Strs
import Derived.Deep.RegionWith
import Derived.Deep.RegionLaw
import Derived.StillTailTactics
import Derived.Laws.IdiomStrings
import Derived.Laws.IdiomCopy
import Derived.Maps.OwnOps
import Derived.Maps.Views
import Derived.WalkKit
set_option linter.constructorNameAsVariable false
open Go Go.Proofs Go.Proofs.YtnmlajmaffiigaaGreatDoor Go.P
namespace Go.DI
open RowKit VB VarM BP RL
def lts(a b:ByteArray):Bool:=Go.Op.bytesLess a.toList b.toList
theorem less_irr:∀(a:List UInt8),Go.Op.bytesLess a a=false
 | []=>rfl
 | a::l=>by simp[Go.Op.bytesLess,less_irr l]
theorem less_tri:∀(a b:List UInt8),Go.Op.bytesLess a b=true\/a=b\/Go.Op.bytesLess b a=true
 | [],[]=>.inr (.inl rfl)
 | [],_::_=>.inl rfl
 | _::_,[]=>.inr (.inr rfl)
 | a::l,b::m=>by
   have h:=less_tri l m
   simp only[Go.Op.bytesLess]
   by_cases h1:a<b
   ·simp[h1]
   ·by_cases h2:b<a
    ·simp[h2]
    ·have e:a=b:=by
       apply UInt8.toNat_inj.1
       have Aa:¬a.toNat<b.toNat:=h1
       have Ab:¬b.toNat<a.toNat:=h2
       omega
     subst e
     simp only[h1,beq_self_eq_true,Bool.false_or,decide_false,Bool.true_and,List.cons.injEq,true_and]
     simpa using h
theorem less_trans:∀(a b c:List UInt8),Go.Op.bytesLess a b=true->Go.Op.bytesLess b c=true->Go.Op.bytesLess a c=true
 | _,[],[],_,h=>by simp[Go.Op.bytesLess] at h
 | [],[],_::_,h,_=>by simp[Go.Op.bytesLess] at h
 | [],_::_,[],_,h=>by simp[Go.Op.bytesLess] at h
 | [],_::_,_::_,_,_=>rfl
 | _::_,[],_,h,_=>by simp[Go.Op.bytesLess] at h
 | _::_,_::_,[],_,h=>by simp[Go.Op.bytesLess] at h
 | a::l,b::m,c::n,h1,h2=>by
   simp only[Go.Op.bytesLess,Bool.or_eq_true,decide_eq_true_eq,Bool.and_eq_true,beq_iff_eq] at h1 h2⊢
   rcases h1 with h1 | ⟨rfl,h1⟩
   ·rcases h2 with h2 | ⟨rfl,_⟩
    ·left
     have Aa:a.toNat<b.toNat:=h1
     have Ab:b.toNat<c.toNat:=h2
     exact(show a.toNat<c.toNat by omega)
    ·exact .inl h1
   ·rcases h2 with h2 | ⟨rfl,h2⟩
    ·exact .inl h2
    ·exact .inr ⟨rfl,less_trans l m n h1 h2⟩
theorem toList_inj{s t:ByteArray}(h:s.toList=t.toList):s=t:=by
 rw[ByteArray.toList_eq,ByteArray.toList_eq] at h
 exact Go.WideShapes.bytes_inj h
theorem Ci0(a:ByteArray):lts a a=false:=less_irr _
theorem Ay4{a b c:ByteArray}(h1:lts a b=true)(h2:lts b c=true):lts a c=true:=less_trans _ _ _ h1 h2
theorem Fb2(a b:ByteArray):lts a b=true\/a=b\/lts b a=true:=by
 rcases less_tri a.toList b.toList with h | h | h
 ·exact .inl h
 ·exact .inr (.inl (toList_inj h))
 ·exact .inr (.inr h)
theorem Dr3{a b:ByteArray}(h:lts a b=true):a≠b:=fun e=>by subst e;rw[Ci0] at h;cases h
theorem Cs0{a b:ByteArray}(h:lts a b=true):lts b a=false:=by
 cases hb:lts b a with
 | false=>rfl
 | true=>have:=Ay4 h hb;rw[Ci0] at this;cases this
theorem Dr2{a b:ByteArray}(h:lts a b=false)(Aa:a≠b):lts b a=true:=by
 rcases Fb2 a b with h1 | h1 | h1
 ·rw[h] at h1;cases h1
 ·exact absurd h1 Aa
 ·exact h1
def Asc(l:List ByteArray):Prop:=l.Pairwise fun a b=>lts a b=true
theorem Asc.nil:Asc []:=List.Pairwise.nil
theorem Asc.one(a:ByteArray):Asc [a]:=List.pairwise_singleton _ _
theorem Eb4:∀{a b:List ByteArray},Asc a->Asc b->(∀x,x∈a↔x∈b)->a=b
 | [],[],_,_,_=>rfl
 | [],y::b,_,_,h=>by have:=(h y).2 (List.mem_cons_self ..);simp at this
 | x::a,[],_,_,h=>by have:=(h x).1 (List.mem_cons_self ..);simp at this
 | x::a,y::b,ha,hb,h=>by
   obtain⟨Aa,Ad⟩:=List.pairwise_cons.1 ha
   obtain⟨Ab,Ac⟩:=List.pairwise_cons.1 hb
   have e:x=y:=by
    have h1:=(h x).1 (List.mem_cons_self ..)
    have h2:=(h y).2 (List.mem_cons_self ..)
    rcases List.mem_cons.1 h1 with h1 | h1
    ·exact h1
    ·rcases List.mem_cons.1 h2 with h2 | h2
     ·exact h2.symm
     ·have k1:=Ab x h1
      have k2:=Aa y h2
      rw[Cs0 k1] at k2;cases k2
   subst e
   congr 1
   refine Eb4 Ad Ac fun z=>?_
   constructor
   ·intro hz
    rcases List.mem_cons.1 ((h z).1 (List.mem_cons_of_mem _ hz)) with h1 | h1
    ·subst h1;exact absurd rfl (Dr3 (Aa _ hz))
    ·exact h1
   ·intro hz
    rcases List.mem_cons.1 ((h z).2 (List.mem_cons_of_mem _ hz)) with h1 | h1
    ·subst h1;exact absurd rfl (Dr3 (Ab _ hz))
    ·exact h1
theorem Eb5{a b:List ByteArray}(ha:Asc a)(hb:Asc b)(h:∀x∈a,∀y∈b,lts x y=true):Asc (a++b):=List.pairwise_append.2 ⟨ha,hb,h⟩
theorem Asc.at{l:List ByteArray}(h:Asc l){i j:Nat}{x y:ByteArray}(Aa:i<j)(hx:l[i]?=some x)(hy:l[j]?=some y):lts x y=true:=by
 obtain⟨hi,rfl⟩:=List.getElem?_eq_some_iff.1 hx
 obtain⟨hj,rfl⟩:=List.getElem?_eq_some_iff.1 hy
 exact List.pairwise_iff_getElem.1 h i j hi hj Aa
def plc(s:ByteArray):List ByteArray->Nat
 | []=>0
 | w::r=>if lts w s then plc s r+1 else 0
theorem Bz5(s:ByteArray):∀l,plc s l<=l.length
 | []=>Q1 _
 | w::r=>by
   have:=Bz5 s r
   unfold plc;split<;>simp<;>omega
theorem Cp7(s:ByteArray):∀(l:List ByteArray)(i:Nat)(x:ByteArray),i<plc s l->l[i]?=some x->lts x s=true
 | [],i,x,h,_=>by simp[plc] at h
 | w::r,i,x,h,hx=>by
   unfold plc at h
   by_cases hw:lts w s=true
   ·rw[if_pos hw] at h
    cases i with
    | zero=>simp at hx;rw[←hx];exact hw
    | succ i=>exact Cp7 s r i x (by omega) (by simpa using hx)
   ·rw[if_neg hw] at h;omega
theorem Cp8(s:ByteArray):∀(l:List ByteArray)(x:ByteArray),l[plc s l]?=some x->lts x s=false
 | [],x,h=>by simp at h
 | w::r,x,h=>by
   unfold plc at h
   by_cases hw:lts w s=true
   ·rw[if_pos hw,List.getElem?_cons_succ] at h
    exact Cp8 s r x h
   ·rw[if_neg hw] at h
    simp at h
    rw[←h];simpa using hw
theorem Eg5{s:ByteArray}{l:List ByteArray}{i:Nat}{x:ByteArray}(hi:i<=plc s l)(hx:l[i]?=some x)(h:lts x s=true):i+1<=plc s l:=by
 rcases Nat.lt_or_ge i (plc s l) with h1 | h1
 ·exact h1
 ·have e:i=plc s l:=by omega
  subst e
  rw[Cp8 s l x hx] at h;cases h
theorem Eg4{s:ByteArray}{l:List ByteArray}{i:Nat}{x:ByteArray}(hi:i<=plc s l)(hx:l[i]?=some x)(h:lts x s=false):plc s l=i:=by
 rcases Nat.lt_or_ge i (plc s l) with h1 | h1
 ·rw[Cp7 s l i x h1 hx] at h;cases h
 ·omega
theorem Ez2{s:ByteArray}{l:List ByteArray}{i:Nat}(hi:i<=plc s l)(hl:l.length<=i):plc s l=i:=by
 have:=Bz5 s l;omega
theorem Do4{s:ByteArray}{l:List ByteArray}(h:Asc l){i:Nat}(hi:l[i]?=some s):plc s l=i:=by
 rcases Nat.lt_trichotomy i (plc s l) with h1 | h1 | h1
 ·have:=Cp7 s l i s h1 hi;rw[Ci0] at this;cases this
 ·exact h1.symm
 ·have hl:=(List.getElem?_eq_some_iff.1 hi).1
  have h2:=Cp8 s l _ (Q7 (by omega))
  rw[h.at h1 (Q7 (by omega)) hi] at h2;cases h2
theorem Do3{s:ByteArray}{l:List ByteArray}(h:Asc l)(hs:s∈l):plc s l<l.length/\l[plc s l]?=some s:=by
 obtain⟨i,hi,e⟩:=List.mem_iff_getElem.1 hs
 have h1:l[i]?=some s:=by rw[Q7 hi,e]
 rw[Do4 h h1]
 exact⟨hi,h1⟩
def ins(s:ByteArray)(l:List ByteArray):List ByteArray:=if l[plc s l]?=some s then l else l.take (plc s l)++s::l.drop (plc s l)
theorem mem_ins{s x:ByteArray}{l:List ByteArray}:x∈ins s l↔x=s\/x∈l:=by
 unfold ins
 split
 ·rename_i h
  constructor
  ·exact .inr
  ·rintro(rfl | h1)
   ·exact List.mem_of_getElem? h
   ·exact h1
 ·have e:x∈l↔x∈l.take (plc s l)\/x∈l.drop (plc s l):=by
    rw[←List.mem_append,List.take_append_drop]
  rw[List.mem_append,List.mem_cons,e]
  constructor
  ·rintro(h | h | h)
   ·exact .inr (.inl h)
   ·exact .inl h
   ·exact .inr (.inr h)
  ·rintro(h | h | h)
   ·exact .inr (.inl h)
   ·exact .inl h
   ·exact .inr (.inr h)
theorem Fg5{s:ByteArray}{l:List ByteArray}(h:Asc l):Asc (ins s l):=by
 unfold ins
 split
 ·exact h
 ·rename_i hne
  have Ac:∀x∈l.take (plc s l),lts x s=true:=by
   intro x hx
   obtain⟨i,hi,e⟩:=List.mem_iff_getElem.1 hx
   rw[List.length_take] at hi
   refine Cp7 s l i x (by omega) ?_
   rw[←e,List.getElem_take,Q7]
  have Aa:∀x∈l.drop (plc s l),lts s x=true:=by
   intro x hx
   obtain⟨i,hi,e⟩:=List.mem_iff_getElem.1 hx
   rw[List.length_drop] at hi
   rw[List.getElem_drop] at e
   have h0:l[plc s l]?=some l[plc s l]:=Q7 (by omega)
   have h1:=Cp8 s l _ h0
   have h2:lts s l[plc s l]=true:=Dr2 h1 fun e'=>hne (by rw[h0,e'])
   rcases Nat.eq_zero_or_pos i with Ab | Ab
   ·subst Ab
    rw[←e];exact h2
   ·refine Ay4 h2 ?_
    rw[←e]
    exact List.pairwise_iff_getElem.1 h _ _ (by omega) (by omega) (by omega)
  have hw:Asc (l.take (plc s l)++l.drop (plc s l)):=by rw[List.take_append_drop];exact h
  obtain⟨h1,h2,_⟩:=List.pairwise_append.1 hw
  refine Eb5 h1 (List.pairwise_cons.2 ⟨Aa,h2⟩) ?_
  intro x hx y hy
  rcases List.mem_cons.1 hy with hy | hy
  ·subst hy;exact Ac x hx
  ·exact Ay4 (Ac x hx) (Aa y hy)
theorem Fc2(s:ByteArray)(l:List ByteArray):(ins s l).length<=l.length+1:=by
 have:=Bz5 s l
 unfold ins
 split
 ·omega
 ·rw[Q5,List.length_take,Q6,List.length_drop];omega
theorem Fc0{s:ByteArray}{l:List ByteArray}(h:l[plc s l]?=some s):ins s l=l:=by unfold ins;rw[if_pos h]
theorem Fc1{s:ByteArray}{l:List ByteArray}(h:l[plc s l]?≠some s):ins s l=l.take (plc s l)++s::l.drop (plc s l):=by unfold ins;rw[if_neg h]
def srt(l:List ByteArray):List ByteArray:=l.foldl (fun ws s=>ins s ws) []
theorem srt_nil:srt []=[]:=rfl
theorem Ee8(l:List ByteArray)(s:ByteArray):srt (l++[s])=ins s (srt l):=by unfold srt;rw[List.foldl_append];rfl
theorem take_snoc{α:Type}{l:List α}{j:Nat}{s:α}(h:l[j]?=some s):l.take (j+1)=l.take j++[s]:=by rw[List.take_add_one,h];rfl
theorem Co0{l:List ByteArray}{j:Nat}{s:ByteArray}(h:l[j]?=some s):srt (l.take (j+1))=ins s (srt (l.take j)):=by
 rw[take_snoc h,Ee8]
theorem Ax0(l:List ByteArray):∀j,Asc (srt (l.take j))/\(∀x,x∈srt (l.take j)↔x∈l.take j)/\(srt (l.take j)).length<=j:=by
 intro j
 induction j with
 | zero=>rw[List.take_zero];exact⟨Asc.nil,by simp[srt_nil],by simp[srt_nil]⟩
 | succ j ih=>
   obtain⟨h1,h2,h3⟩:=ih
   by_cases hj:j<l.length
   ·have hx:l[j]?=some l[j]:=Q7 hj
    rw[Co0 hx]
    refine⟨Fg5 h1,fun x=>?_,by have:=Fc2 l[j] (srt (l.take j));omega⟩
    rw[mem_ins,h2,take_snoc hx,List.mem_append,List.mem_singleton]
    constructor
    ·rintro(h | h)
     ·exact .inr h
     ·exact .inl h
    ·rintro(h | h)
     ·exact .inr h
     ·exact .inl h
   ·rw[List.take_of_length_le (by omega)] at h1 h2 h3
    rw[List.take_of_length_le (by omega)]
    exact⟨h1,h2,by omega⟩
theorem Bg6(l:List ByteArray):Asc (srt l):=by
 have:=(Ax0 l l.length).1
 rwa [List.take_length] at this
theorem srt_mem{l:List ByteArray}{x:ByteArray}:x∈srt l↔x∈l:=by
 have:=(Ax0 l l.length).2.1 x
 rwa [List.take_length] at this
theorem srt_len(l:List ByteArray):(srt l).length<=l.length:=by
 have:=(Ax0 l l.length).2.2
 rwa [List.take_length] at this
theorem srt_is{l m:List ByteArray}(h:Asc m)(hm:∀x,x∈m↔x∈l):m=srt l:=Eb4 h (Bg6 l) fun x=>(hm x).trans srt_mem.symm
theorem Ex3{l:List ByteArray}(h:l≠[]):0<(srt l).length:=by
 cases l with
 | nil=>exact absurd rfl h
 | cons x l=>exact List.length_pos_of_mem (srt_mem.2 (List.mem_cons_self ..):x∈srt (x::l))
def idx(l:List ByteArray):List Nat:=l.map fun s=>plc s (srt l)
theorem idx_len(l:List ByteArray):(idx l).length=l.length:=List.length_map _
theorem Dt1(l:List ByteArray):∀i∈idx l,i<(srt l).length:=by
 intro i hi
 simp only[idx,List.mem_map] at hi
 obtain⟨s,hs,rfl⟩:=hi
 exact(Do3 (Bg6 l) (srt_mem.2 hs)).1
theorem Eu0{l:List ByteArray}{j:Nat}{s:ByteArray}(h:l[j]?=some s):(idx l)[j]?=some (plc s (srt l)):=by simp[idx,h]
theorem Ej3{l:List ByteArray}{j:Nat}{s:ByteArray}(h:l[j]?=some s):(srt l)[plc s (srt l)]?=some s:=(Do3 (Bg6 l) (srt_mem.2 (List.mem_of_getElem? h))).2
section
variable {a b m r t a' b':List ByteArray} {x y:ByteArray}
end
def wrd(w:ByteArray):List UInt8:=Aa4 w.size++w.data.toList
def wrds(ws:List ByteArray):List UInt8:=(ws.map wrd).flatten
theorem wrds_nil:wrds []=[]:=rfl
theorem wrds_cons(w:ByteArray)(ws:List ByteArray):wrds (w::ws)=wrd w++wrds ws:=rfl
theorem Cm5(a b:List ByteArray):wrds (a++b)=wrds a++wrds b:=by unfold wrds;rw[List.map_append,List.flatten_append]
theorem Dh4(a:List ByteArray)(w:ByteArray):wrds (a++[w])=wrds a++wrd w:=by rw[Cm5,wrds_cons,wrds_nil,List.append_nil]
theorem Dh3{ws:List ByteArray}{j:Nat}{w:ByteArray}(h:ws[j]?=some w):wrds (ws.take (j+1))=wrds (ws.take j)++wrd w:=by rw[take_snoc h,Dh4]
theorem Bx0(ws:List ByteArray)(j:Nat):(wrds (ws.take j)).length<=(wrds ws).length:=by
 have:=Cm5 (ws.take j) (ws.drop j)
 rw[List.take_append_drop] at this
 rw[this,Q5];omega
def wdt(k:Nat):Nat:=wid (k-1)
theorem wdt_le{k:Nat}(h:k<=4096):wdt k<=12:=(Bb6 12 _).2 (by simp;omega)
theorem Er6{k i:Nat}(h:i<k):i<2 ^ wdt k:=by
 have:=(Bb6 (wdt k) (k-1)).1 (Q1 _)
 omega
def encW(ws:List ByteArray)(u:List Nat):List UInt8:=Aa4 ws.length++wrds ws++Ac4 u (wdt ws.length)
def encD(l:List ByteArray):List UInt8:=if 4096<l.length then[] else encW (srt l) (idx l)
theorem encD_in{l:List ByteArray}(h:l.length<=4096):encD l=encW (srt l) (idx l):=by unfold encD;rw[if_neg (by omega)]
theorem El7{l:List ByteArray}(h:4096<l.length):encD l=[]:=by unfold encD;rw[if_pos h]
theorem Da8(w:Nat):Ac4 [] w=[]:=by simp[Ac4,Aq1]
theorem packed_le{u:List Nat}{w:Nat}(h:u.length<=4096)(hw:w<=12):(Ac4 u w).length<=6144:=by
 have:u.length*w<=4096*12:=Nat.mul_le_mul h hw
 rw[Ak6];omega
def Bu5(s:ByteArray)(p:Int):ByteArray×Int×Nat:=
 if(Aa2 s p).2.2≠0 then(⟨#[]⟩,0,(Aa2 s p).2.2) else if(s.size:Int)-(Aa2 s p).2.1<(Aa2 s p).1 then(⟨#[]⟩,0,10)
 else(s.extract (Aa2 s p).2.1.toNat ((Aa2 s p).2.1.toNat+(Aa2 s p).1),(Aa2 s p).2.1+(Aa2 s p).1,0)
theorem Eu1{s:ByteArray}{p:Int}{a:Nat}{b:Int}{c:Nat}(h:Aa2 s p=(a,b,c))(hc:c≠0):Bu5 s p=(⟨#[]⟩,0,c):=by unfold Bu5;rw[h,if_pos hc]
theorem Bp0{s:ByteArray}{p:Int}{a:Nat}{b:Int}(h:Aa2 s p=(a,b,0))(hb:(s.size:Int)-b<a):Bu5 s p=(⟨#[]⟩,0,10):=by unfold Bu5;rw[h,if_neg (by simp),if_pos hb]
theorem Ci7{s:ByteArray}{p:Int}{a b:Nat}(h:Aa2 s p=(a,(b:Int),0))(hb:b+a<=s.size):Bu5 s p=(s.extract b (b+a),((b+a:Nat):Int),0):=by
 unfold Bu5;rw[h,if_neg (by simp),if_neg (by simp only;omega)];simp
def dws(s:ByteArray):Nat->Int->List ByteArray->List ByteArray×Int×Nat
 | 0,p,ws=>(ws,p,0)
 | k+1,p,ws=>if(Bu5 s p).2.2≠0 then([],0,(Bu5 s p).2.2) else if ∃x,ws.getLast?=some x/\lts x (Bu5 s p).1=false then([],0,2) else dws s k (Bu5 s p).2.1 (ws++[(Bu5 s p).1])
section
variable {s:ByteArray} {k:Nat} {p:Int} {ws:List ByteArray} {x:ByteArray} {q:Int}
theorem El8(s:ByteArray)(p:Int)(ws:List ByteArray):dws s 0 p ws=(ws,p,0):=rfl
theorem dws_e{c:Nat}(h:Bu5 s p=(x,q,c))(hc:c≠0):dws s (k+1) p ws=([],0,c):=by rw[dws,h,if_pos hc]
theorem dws_f{y:ByteArray}(h:Bu5 s p=(x,q,0))(hy:ws.getLast?=some y)(hl:lts y x=false):dws s (k+1) p ws=([],0,2):=by
 rw[dws,h,if_neg (by simp),if_pos ⟨y,hy,hl⟩]
theorem Cu5(h:Bu5 s p=(x,q,0))(hl:∀y,ws.getLast?=some y->lts y x=true):dws s (k+1) p ws=dws s k q (ws++[x]):=by
 rw[dws,h,if_neg (by simp),if_neg]
 rintro⟨y,hy,h1⟩
 rw[hl y hy] at h1;cases h1
end
def lkR(ws:List ByteArray)(u:List Nat):List ByteArray×Nat:=
 if(∀i∈u,i<ws.length)/\(∀j,j<ws.length->j∈u) then(u.map fun i=>ws.getD i ⟨#[]⟩,0) else([],2)
theorem Et4{ws:List ByteArray}{u:List Nat}(h1:∀i∈u,i<ws.length)(h2:∀j,j<ws.length->j∈u):lkR ws u=(u.map fun i=>ws.getD i ⟨#[]⟩,0):=by unfold lkR;rw[if_pos ⟨h1,h2⟩]
theorem Fb4{ws:List ByteArray}{u:List Nat}{i:Nat}(h:i∈u)(hi:¬i<ws.length):lkR ws u=([],2):=by unfold lkR;rw[if_neg (fun hh=>hi (hh.1 i h))]
theorem lkR_un{ws:List ByteArray}{u:List Nat}{j:Nat}(hj:j<ws.length)(h:j ∉ u):lkR ws u=([],2):=by unfold lkR;rw[if_neg (fun hh=>h (hh.2 j hj))]
def decD(s:ByteArray)(n:Int):List ByteArray×Nat:=
 if n<0\/4096<n then([],4) else if(Aa2 s 0).2.2≠0 then([],(Aa2 s 0).2.2) else if n<(Aa2 s 0).1\/((Aa2 s 0).1=0/\0<n) then([],2)
 else if(dws s (Aa2 s 0).1 (Aa2 s 0).2.1 []).2.2≠0 then([],(dws s (Aa2 s 0).1 (Aa2 s 0).2.1 []).2.2)
 else if(Ad2 (s.extract (dws s (Aa2 s 0).1 (Aa2 s 0).2.1 []).2.1.toNat s.size) n (wdt (Aa2 s 0).1:Nat)).2≠0 then([],(Ad2 (s.extract (dws s (Aa2 s 0).1 (Aa2 s 0).2.1 []).2.1.toNat s.size) n (wdt (Aa2 s 0).1:Nat)).2)
 else lkR (dws s (Aa2 s 0).1 (Aa2 s 0).2.1 []).1 (Ad2 (s.extract (dws s (Aa2 s 0).1 (Aa2 s 0).2.1 []).2.1.toNat s.size) n (wdt (Aa2 s 0).1:Nat)).1
section
variable {s:ByteArray} {n:Nat} {a:Nat} {b:Int} {ws:List ByteArray} {q:Nat} {u:List Nat} {c:Nat}
theorem Cv1{n:Int}(h:n<0\/4096<n):decD s n=([],4):=by unfold decD;rw[if_pos h]
theorem Eu8(h:n<=4096)(hg:Aa2 s 0=(a,b,c))(hc:c≠0):decD s (n:Nat)=([],c):=by unfold decD;rw[if_neg (by omega),hg,if_pos hc]
theorem Eu7(h:n<=4096)(hg:Aa2 s 0=(a,b,0))(hk:n<a\/(a=0/\0<n)):decD s (n:Nat)=([],2):=by
 unfold decD;rw[if_neg (by omega),hg,if_neg (by simp),if_pos (by simp only;omega)]
theorem Dy0{q:Int}(h:n<=4096)(hg:Aa2 s 0=(a,b,0))(hk:a<=n/\(a=0->n=0))(hw:dws s a b []=(ws,q,c))(hc:c≠0):decD s (n:Nat)=([],c):=by
 unfold decD;rw[if_neg (by omega),hg,if_neg (by simp),if_neg (by simp only;omega)];simp only;rw[hw,if_pos hc]
theorem Dy1(h:n<=4096)(hg:Aa2 s 0=(a,b,0))(hk:a<=n/\(a=0->n=0))(hw:dws s a b []=(ws,(q:Int),0))(hu:Ad2 (s.extract q s.size) n (wdt a:Nat)=(u,c))(hc:c≠0):decD s (n:Nat)=([],c):=by
 unfold decD;rw[if_neg (by omega),hg,if_neg (by simp),if_neg (by simp only;omega)];simp only;rw[hw,if_neg (by simp)];simp only[Int.toNat_natCast];rw[hu,if_pos hc]
theorem Cv2(h:n<=4096)(hg:Aa2 s 0=(a,b,0))(hk:a<=n/\(a=0->n=0))(hw:dws s a b []=(ws,(q:Int),0))(hu:Ad2 (s.extract q s.size) n (wdt a:Nat)=(u,0)):decD s (n:Nat)=lkR ws u:=by
 unfold decD;rw[if_neg (by omega),hg,if_neg (by simp),if_neg (by simp only;omega)];simp only;rw[hw,if_neg (by simp)];simp only[Int.toNat_natCast];rw[hu,if_neg (by simp)]
end
end Go.DI
namespace Go.DI
open RowKit VB VarM BP RL
theorem Ei6{s t:ByteArray}(h:s.data.toList=t.data.toList):s=t:=by
 rw[←Aw5 s,←Aw5 t,h]
theorem Ed0{s:ByteArray}{Ab w:List UInt8}{Aa:List UInt8}(h:s.data.toList=Ab++w++Aa):Ab.length+w.length<=s.size:=by
 rw[←Aa1,h,Q5,Q5];omega
theorem Ff0{s:ByteArray}{Aa w Ab:List UInt8}(h:s.data.toList=Aa++w++Ab):s.extract Aa.length (Aa.length+w.length)=str w:=by
 apply Ei6
 rw[Ad3,h,List.append_assoc,List.drop_left,Nat.add_sub_cancel_left,List.take_left];rfl
theorem Ej9{s:ByteArray}{Ab Aa:List UInt8}{w:ByteArray}(hw:w.size<18446744073709551616)(h:s.data.toList=Ab++wrd w++Aa):
   Bu5 s ((Ab.length:Nat):Int)=(w,(((Ab++wrd w).length:Nat):Int),0):=by
 have h1:s.data.toList=Ab++Aa4 w.size++(w.data.toList++Aa):=by rw[h,wrd];simp only[List.append_assoc]
 have h2:s.data.toList=(Ab++Aa4 w.size)++w.data.toList++Aa:=by rw[h,wrd];simp only[List.append_assoc]
 have g:=Aj4 hw h1
 have hs:=Ed0 h2
 rw[Aa1] at hs
 have c:=Ff0 h2
 rw[Aa1] at c
 rw[Ci7 g hs,c,Aw5]
 congr 2
 rw[wrd,Q5,Q5,Q5,Aa1]
 push_cast;omega
theorem Fe1(s:ByteArray):∀(Aa ws:List ByteArray)(Ac Ab:List UInt8),s.data.toList=Ac++wrds Aa++Ab->(∀w∈Aa,w.size<18446744073709551616)->Asc (ws++Aa) ->
   dws s Aa.length ((Ac.length:Nat):Int) ws=(ws++Aa,(((Ac++wrds Aa).length:Nat):Int),0):=by
 intro Aa
 induction Aa with
 | nil=>intro ws Ac Ab _ _ _;rw[wrds_nil,List.append_nil,List.append_nil];rfl
 | cons w Aa ih=>
   intro ws Ac Ab h hw ha
   rw[wrds_cons] at h
   have h1:s.data.toList=Ac++wrd w++(wrds Aa++Ab):=by rw[h];simp only[List.append_assoc]
   have h2:s.data.toList=(Ac++wrd w)++wrds Aa++Ab:=by rw[h];simp only[List.append_assoc]
   have e:ws++w::Aa=(ws++[w])++Aa:=by rw[List.append_assoc];rfl
   rw[Q6,Cu5 (Ej9 (hw w (List.mem_cons_self ..)) h1),ih (ws++[w]) (Ac++wrd w) Ab h2 (fun x hx=>hw x (List.mem_cons_of_mem _ hx)) (by rw[←e];exact ha),←e,wrds_cons,List.append_assoc]
   intro y hy
   have Ad:y∈ws:=List.mem_of_getLast? hy
   exact(List.pairwise_append.1 ha).2.2 y Ad w (List.mem_cons_self ..)
theorem Cb0(l:List ByteArray):(idx l).map (fun i=>(srt l).getD i ⟨#[]⟩)=l:=by
 apply List.ext_getElem?
 intro j
 rw[List.getElem?_map]
 cases hl:l[j]? with
 | none=>
   have:l.length<=j:=List.getElem?_eq_none_iff.1 hl
   rw[List.getElem?_eq_none (by rw[idx_len];exact this)];rfl
 | some s=>
   rw[Eu0 hl,Option.map_some,List.getD_eq_getElem?_getD,Ej3 hl];rfl
theorem Fc4{l:List ByteArray}{j:Nat}(hj:j<(srt l).length):j∈idx l:=by
 have hx:(srt l)[j]?=some (srt l)[j]:=Q7 hj
 have hm:(srt l)[j]∈l:=srt_mem.1 (List.getElem_mem hj)
 simp only[idx,List.mem_map]
 exact⟨_,hm,Do4 (Bg6 l) hx⟩
theorem lk_srt(l:List ByteArray):lkR (srt l) (idx l)=(l,0):=by
 rw[Et4 (Dt1 l) (fun j hj=>Fc4 hj),Cb0]
theorem Bg5{l:List ByteArray}:(srt l).length=0↔l.length=0:=by
 constructor
 ·intro h
  rcases Nat.eq_zero_or_pos l.length with h1 | h1
  ·exact h1
  ·have:=Ex3 (l:=l) (by intro e;subst e;simp at h1);omega
 ·intro h
  have:=srt_len l;omega
theorem decD_enc{l:List ByteArray}(h:l.length<=4096)(hw:∀w∈l,w.size<18446744073709551616):decD (str (encD l)) (l.length:Nat)=(l,0):=by
 have Aa:=srt_len l
 have hz:=Bg5 (l:=l)
 rw[encD_in h]
 have hs:(str (encW (srt l) (idx l))).data.toList=Aa4 (srt l).length++wrds (srt l)++Ac4 (idx l) (wdt (srt l).length):=rfl
 have g:Aa2 (str (encW (srt l) (idx l))) (([]:List UInt8).length:Nat)=((srt l).length,((([]++Aa4 (srt l).length:List UInt8).length:Nat):Int),0):=
  Aj4 (s:=str (encW (srt l) (idx l))) (a:=[]) (r:=wrds (srt l)++Ac4 (idx l) (wdt (srt l).length)) (by omega) (by rw[hs];simp only[List.nil_append,List.append_assoc])
 have d:=Fe1 (str (encW (srt l) (idx l))) (srt l) [] (Aa4 (srt l).length) _ hs (fun w hm=>hw w (srt_mem.1 hm)) (by rw[List.nil_append];exact Bg6 l)
 rw[List.nil_append] at d
 have hx:(str (encW (srt l) (idx l))).extract (Aa4 (srt l).length++wrds (srt l)).length (str (encW (srt l) (idx l))).size=str (Ac4 (idx l) (wdt (srt l).length)):=by
  rw[Bk1,hs,List.drop_left]
 have Ab:=wdt_le (k:=(srt l).length) (by omega)
 have u:=Bn7 (l:=idx l) (w:=wdt (srt l).length) (by omega) (by rw[idx_len];exact h) (fun i hi=>Er6 (Dt1 l i hi))
 rw[idx_len] at u
 rw[Cv2 h g ⟨Aa,by omega⟩ d (by rw[hx];exact u),lk_srt]
theorem Cb5{s:ByteArray}{p:Nat}{x:ByteArray}{q:Int}(h:Bu5 s (p:Nat)=(x,q,0)):∃k:Nat,q=k/\p<=k/\k<=s.size/\wrd x=(s.data.toList.drop p).take (k-p)/\x.size<18446744073709551616:=by
 obtain⟨a,b,c,hg⟩:∃a b c,Aa2 s (p:Nat)=(a,b,c):=⟨_,_,_,rfl⟩
 by_cases hc:c=0
 ·subst hc
  obtain⟨k1,m,e1,e2,h1,h2,h3,h4⟩:=getR_zero hg
  have Aa:k1=p:=by omega
  subst Aa
  obtain⟨b',rfl⟩:∃b':Nat,b=b':=⟨k1+m,by omega⟩
  by_cases hb:b'+a<=s.size
  ·rw[Ci7 hg hb] at h
   cases h
   have Ab:(s.extract b' (b'+a)).size=a:=by rw[←Aa1,Ad3,List.length_take,List.length_drop,Aa1];omega
   refine⟨b'+a,rfl,by omega,hb,?_,by omega⟩
   rw[wrd,Ab,Ad3,h3,show b'+a-k1=m+a from by omega,show b'+a-b'=a from by omega,List.take_add,List.drop_drop,show k1+m=b' from by omega]
  ·rw[Bp0 hg (by omega)] at h;cases h
 ·rw[Eu1 hg hc] at h;cases h;exact absurd rfl hc
theorem Bv3(s:ByteArray):∀(k:Nat)(p:Nat)(ws r:List ByteArray)(q:Int),p<=s.size->dws s k (p:Nat) ws=(r,q,0)->Asc ws ->
   ∃(Aa:List ByteArray)(m:Nat),r=ws++Aa/\Aa.length=k/\q=m/\p<=m/\m<=s.size/\wrds Aa=(s.data.toList.drop p).take (m-p)/\Asc r/\(∀w∈Aa,w.size<18446744073709551616):=by
 intro k
 induction k with
 | zero=>
   intro p ws r q hp h ha
   cases h
   exact⟨[],p,by simp,rfl,rfl,Q1 _,hp,by simp[wrds_nil],ha,by simp⟩
 | succ k ih=>
   intro p ws r q hp h ha
   obtain⟨x,q1,c,hg⟩:∃x q c,Bu5 s (p:Nat)=(x,q,c):=⟨_,_,_,rfl⟩
   by_cases hc:c=0
   ·subst hc
    by_cases hl:∃y,ws.getLast?=some y/\lts y x=false
    ·obtain⟨y,hy,h1⟩:=hl
     rw[dws_f hg hy h1] at h;cases h
    ·have Ab:∀y,ws.getLast?=some y->lts y x=true:=fun y hy=>by
       cases hb:lts y x with
       | true=>rfl
       | false=>exact absurd ⟨y,hy,hb⟩ hl
     rw[Cu5 hg Ab] at h
     obtain⟨k1,rfl,h1,h2,h3,h4⟩:=Cb5 hg
     have Ac:Asc (ws++[x]):=by
      refine Eb5 ha (Asc.one x) fun z hz w hw=>?_
      rw[List.mem_singleton.1 hw]
      rcases List.eq_nil_or_concat ws with h0 | ⟨Ad,y,h0⟩
      ·subst h0;simp at hz
      ·rw[List.concat_eq_append] at h0
       subst h0
       have hy:=Ab y (by simp)
       rcases List.mem_append.1 hz with hz | hz
       ·exact Ay4 ((List.pairwise_append.1 ha).2.2 z hz y (List.mem_cons_self ..)) hy
       ·rw[List.mem_singleton.1 hz];exact hy
     obtain⟨Aa,m,e1,e2,e3,e4,e5,e6,e7,e8⟩:=ih k1 (ws++[x]) r q h2 h Ac
     refine⟨x::Aa,m,by rw[e1,List.append_assoc];rfl,by rw[Q6,e2],e3,by omega,e5,?_,e7,?_⟩
     ·rw[wrds_cons,h3,e6,show m-p=(k1-p)+(m-k1) from by omega,List.take_add,List.drop_drop,show p+(k1-p)=k1 from by omega]
     ·intro w hw
      rcases List.mem_cons.1 hw with hw | hw
      ·rw[hw];exact h4
      ·exact e8 w hw
   ·rw[dws_e hg hc] at h;cases h;exact absurd rfl hc
theorem Ei5{ws:List ByteArray}{u:List Nat}{r:List ByteArray}(h:lkR ws u=(r,0)):(∀i∈u,i<ws.length)/\(∀j,j<ws.length->j∈u)/\r=u.map fun i=>ws.getD i ⟨#[]⟩:=by
 unfold lkR at h
 split at h
 ·rename_i hh
  cases h
  exact⟨hh.1,hh.2,rfl⟩
 ·cases h
theorem lk_back{ws:List ByteArray}{u:List Nat}(ha:Asc ws)(h1:∀i∈u,i<ws.length)(h2:∀j,j<ws.length->j∈u):srt (u.map fun i=>ws.getD i ⟨#[]⟩)=ws/\idx (u.map fun i=>ws.getD i ⟨#[]⟩)=u:=by
 have hs:ws=srt (u.map fun i=>ws.getD i ⟨#[]⟩):=by
  refine srt_is ha fun x=>?_
  simp only[List.mem_map]
  constructor
  ·intro hx
   obtain⟨j,hj,e⟩:=List.mem_iff_getElem.1 hx
   exact⟨j,h2 j hj,by rw[List.getD_eq_getElem?_getD,Q7 hj];exact e⟩
  ·rintro⟨i,hi,rfl⟩
   rw[List.getD_eq_getElem?_getD,Q7 (h1 i hi)]
   exact List.getElem_mem _
 refine⟨hs.symm,?_⟩
 unfold idx
 rw[←hs,List.map_map]
 refine(List.map_congr_left fun i hi=>?_).trans (List.map_id u)
 have hx:ws[i]?=some (ws.getD i ⟨#[]⟩):=by rw[List.getD_eq_getElem?_getD,Q7 (h1 i hi)];rfl
 exact Do4 ha hx
theorem Au1{s:ByteArray}{n w:Nat}(hn:n<=4096)(hw:w<=64){u:List Nat}(h:Ad2 s (n:Nat) (w:Nat)=(u,0)):u.length=n/\(∀x∈u,x<2 ^ w)/\Ac4 u w=s.data.toList:=by
 by_cases h1:s.size<(n*w+7)/8
 ·rw[Aw1 hn hw h1] at h;cases h
 by_cases h2:(n*w+7)/8<s.size
 ·rw[Bb8 hn hw h2] at h;cases h
 have h3:s.size=(n*w+7)/8:=by omega
 by_cases h4:num s<2 ^ (n*w)
 ·rw[Am8 hn hw h3 h4] at h
  cases h
  refine⟨Aj5 _ _ _,Cj6 _ _ _,?_⟩
  unfold Ac4
  rw[Aj5,Cw8,Nat.mul_comm w n,Nat.mod_eq_of_lt h4]
  have:=Cy3 h3 rfl
  exact(congrArg (fun t=>t.data.toList) this).symm
 ·rw[Al5 hn hw h3 h4] at h;cases h
theorem decD_only{s:ByteArray}{n:Nat}(hn:n<=4096){r:List ByteArray}(h:decD s (n:Nat)=(r,0)):encD r=s.data.toList/\r.length=n/\(∀w∈r,w.size<18446744073709551616):=by
 obtain⟨a,b,c,hg⟩:∃a b c,Aa2 s 0=(a,b,c):=⟨_,_,_,rfl⟩
 by_cases hc:c=0
 ·subst hc
  by_cases hk:n<a\/(a=0/\0<n)
  ·rw[Eu7 hn hg hk] at h;cases h
  have Aa:a<=n/\(a=0->n=0):=by omega
  obtain⟨k1,m1,e1,e2,h1,h2,h3,h4⟩:=getR_zero hg
  have Ac:k1=0:=by omega
  subst Ac
  obtain⟨b',rfl⟩:∃b':Nat,b=b':=⟨m1,by omega⟩
  obtain⟨ws,q,c,hw⟩:∃ws q c,dws s a (b':Nat) []=(ws,q,c):=⟨_,_,_,rfl⟩
  by_cases hc:c=0
  ·subst hc
   obtain⟨Ad,m,f1,f2,f3,f4,f5,f6,f7,f8⟩:=Bv3 s a b' [] ws q (by omega) hw Asc.nil
   rw[List.nil_append] at f1
   subst f1
   subst f3
   obtain⟨u,c,hu⟩:∃u c,Ad2 (s.extract m s.size) n (wdt a:Nat)=(u,c):=⟨_,_,rfl⟩
   by_cases hc:c=0
   ·subst hc
    rw[Cv2 hn hg Aa hw hu] at h
    obtain⟨l1,l2,rfl⟩:=Ei5 h
    have Ae:=wdt_le (k:=a) (by omega)
    obtain⟨u1,u2,u3⟩:=Au1 hn (by omega) hu
    obtain⟨b1,b2⟩:=lk_back f7 l1 l2
    refine⟨?_,by rw[List.length_map,u1],?_⟩
    ·rw[encD_in (by rw[List.length_map,u1];exact hn),b1,b2]
     unfold encW
     rw[f2,h3,f6,u3,Ad3]
     have hb:b'=m1:=by omega
     subst hb
     rw[List.drop_zero,List.take_of_length_le (i:=s.size-m) (by rw[List.length_drop,Aa1];omega)]
     have e5:(s.data.toList.take b'++(s.data.toList.drop b').take (m-b'))=s.data.toList.take m:=by
      rw[←List.take_add,show b'+(m-b')=m from by omega]
     rw[e5,List.take_append_drop]
    ·intro w Ab
     simp only[List.mem_map] at Ab
     obtain⟨i,hi,rfl⟩:=Ab
     rw[List.getD_eq_getElem?_getD,Q7 (l1 i hi)]
     exact f8 _ (List.getElem_mem _)
   ·rw[Dy1 hn hg Aa hw hu hc] at h;cases h;exact absurd rfl hc
  ·rw[Dy0 hn hg Aa hw hc] at h;cases h;exact absurd rfl hc
 ·rw[Eu8 hn hg hc] at h;cases h;exact absurd rfl hc
end Go.DI
namespace Go.VB
open RowKit ChangeShapes WideShapes ChangeAt
theorem Dj9 {α:Type} {f:α->Value} {P:Program} {Ak:Array Oper} {o:Oper} {a:Act} {w:World} {K:Act->World->Prop} {Q:Exit->Act->World->Prop} {E:Prop} (Ag:∀x:α,(f x).oneCell'=true) (z:Value) (Al:z.cells.size=1)
   (hg:o.guard=none) (s x:Operand) (t:TypeId) (Aq:o.op=Op.call { callee:=Callee.builtin Builtin.append,args:=#[s,x],argTypes:=#[t,t] })
   (base:Nat) (e:TypeId) (Aa:Nat) (ht:P.underlying t=some (.slice e)) (Af:(P.info? e).map (fun i=>(i.zero,i.size,i.bytes))=some (some z,1,Aa))
   (v:Value) (l:List α) (hs:a.eval s=v) (Ae:OwnV f e w base v l) (B:Nat) (vx:Value) (y:α) (hx:a.eval x=vx) (hr:RdV f w B vx [y])
   (Ah:l.length+1<=maxLen) (Ad:(l.length+1)*Aa<=140737488355328) (Ab:base<=w.heap.size)
   (hK:∀v' w',OwnV f e w' base v' (l++[y])->Below base w w'->w.grownBy w' v.ownBlock->K (a.put o.dst v') w'):
   if Region.wanted o (yielded Ak a.tmps)=true then Oper.wp P o a w K Q else E:=by
 have hw:Region.wanted o (yielded Ak a.tmps)=true:=by simp[Region.wanted,hg]
 rw[if_pos hw]
 obtain⟨i,hi,hz,Ap,Ao⟩:=info_parts Af
 obtain⟨A,c,rfl,hc,hm,Ac⟩:=hr
 obtain⟨ad,rfl,_,_⟩:=Ac 0 y rfl
 obtain⟨v',w',Ai,r1,r2,_⟩:=run_append_own (P:=P) w base t o.type e i z 1 Aa ht hi hz Ap Ao Al (by decide) v l.length (l.map f) Ae ad 1 c [f y] rfl
  (fun j u hj=>by
   obtain⟨Aj,he⟩:=List.getElem?_eq_some_iff.1 hj
   have An:j=0:=by simp at Aj;exact Aj
   subst An
   obtain⟨Ar,h1,_,h3⟩:=Ac 0 y rfl
   cases h1
   rw[h3];simpa using he)
  (fun u hu=>by rw[List.mem_singleton.1 hu];exact Ag y) Ah Ad Ab
 unfold Oper.wp
 simp[execOp,Aq,resolve,invoke,builtin,hs,hx,Ai,Result.andThen]
 refine hK v' w' ?_ ((Q2 _ _).grown r2 Ab (fun b hb=>(OwnV.lt Ae b hb).1)) r2
 unfold OwnV
 rw[Q5,List.map_append]
 exact r1
theorem Cz0 {P:Program} {t e:TypeId} {Aa:Nat} {z:Value} (Ac:z.cells=#[z]) (ht:P.underlying t=some (.slice e)) (Ab:(P.info? e).map (fun i=>(i.zero,i.size,i.bytes))=some (some z,1,Aa))
   (n:Nat) (hb:Aa*n<=281474976710656) (hm:n<=maxLen) (w:World):
   (Instr.makeSlice t (.int .i64 0) (.int .i64 (n:Int))).run P w=.ok (.slice (some ⟨w.heap.size,0,none⟩) 0 n) (w.alloc (.cells (madeCells #[z] n) e)):=by
 obtain⟨i,hi,hz,Ae,Ad⟩:=info_parts Ab
 unfold maxLen at hm
 have h:=run_make (P:=P) w t e i z ht hi hz .i64 .i64 0 n (by omega) (by omega) (by rw[Ad,←Int.natCast_mul];omega) (by omega)
 rw[Int.toNat_natCast,Ae,Nat.mul_one,Ac] at h
 exact h
def lenS:Value->Nat
 | .slice _ n _=>n
 | _=>0
theorem RdV.at{α:Type}{f:α->Value}{w:World}{B c n:Nat}{A:Option Addr}{l:List α}(h:RdV f w B (.slice A n c) l){i:Nat}{x:α}(hx:l[i]?=some x):∃ad,A=some ad/\ad.block<B/\w.cell? (ad.add i)=some (f x):=by
 obtain⟨A',c',hv,_,_,hr⟩:=h
 cases hv
 exact hr i x hx
theorem RdV.bds{α:Type}{f:α->Value}{w:World}{B:Nat}{v:Value}{l:List α}(h:RdV f w B v l):∃A c n,v=.slice A n c/\n=l.length/\n<=c/\c<=9223372036854775807:=by
 obtain⟨A,c,rfl,h1,h2,_⟩:=h
 exact⟨A,c,_,rfl,rfl,h1,h2⟩
def Ret2{α β:Type}(f:α->Value)(g:β->Value)(l:List α)(m:List β)(w:World):Ending->World->Prop:=fun en w'=>
 ∃v u,en=.returned (.tuple #[v,u])/\RdV f w' w'.heap.size v l/\RdV g w' w'.heap.size u m/\Below w.heap.size w w'
theorem Ret2.mk{α β:Type}{f:α->Value}{g:β->Value}{l:List α}{m:List β}{w w':World}{x v u:Value}(hx:x=.tuple #[v,u])(hv:RdV f w' w'.heap.size v l)(hu:RdV g w' w'.heap.size u m)(hb:Below w.heap.size w w'):Ret2 f g l m w (.returned x) w':=
 ⟨v,u,by rw[hx],hv,hu,hb⟩
theorem RowV.grown{α:Type}{f:α->Value}{e:TypeId}{w:World}{base g c:Nat}{l:List α}(h:RowV f e w base g c l)(j:Nat)(x:α):w.grownBy (w.setCell ⟨g,j,none⟩ (f x)) (some g):=(World.ownsRow.stored h j (f x)).2
theorem Ct7{α:Type}{l:List α}{n j:Nat}{x z:α}(hl:l.length=n)(hj:j<n)(hx:l[j]?=some x):(l.take j++List.replicate (n-j) z).set j x=l.take (j+1)++List.replicate (n-(j+1)) z:=by
 have ht:(l.take j).length=j:=by rw[List.length_take];omega
 rw[List.set_append_right _ _ (by omega),ht,Nat.sub_self,show n-j=(n-(j+1))+1 from by omega,List.replicate_succ,List.set_cons_zero,List.take_add_one,hx,List.append_assoc]
 rfl
theorem Ct9{α:Type}{l:List α}{n:Nat}{z:α}(hl:l.length=n):l.take n++List.replicate (n-n) z=l:=by rw[Nat.sub_self,List.replicate_zero,List.append_nil,←hl,List.take_length]
theorem Bp3{α:Type}(l:List α)(n:Nat)(z:α):List.replicate n z=l.take 0++List.replicate (n-0) z:=by simp
theorem Ct8{α:Type}{l:List α}{n j:Nat}{z:α}(hl:l.length=n)(hj:j<=n):(l.take j++List.replicate (n-j) z).length=n:=by rw[Q5,List.length_take,List.length_replicate];omega
def nI(n:Nat):Value:=.int .i64 (n:Int)
section
variable {H:Type} {enc:TypeId×Value->H} {P:Program}
end
end Go.VB
namespace Go.VB
open RowKit
section
variable {P:Program}
end
end Go.VB
namespace Go.P
open RowKit VB VarM BP RL DI
theorem Tryz.infStr:(Tryz.prog.info? 9).map (fun i=>(i.zero,i.size,i.bytes))=some (some (.string ⟨#[]⟩),1,16):=by kernel_rfl
theorem Bt9{x y:ByteArray}{b:Bool}(h:lts x y=b):Go.Op.bytesLess x.toList y.toList=b:=h
end Go.P
namespace Go.P
open RowKit VB VarM BP RL DI
end Go.P
namespace Go.DI
open RowKit VB WideMaps Maps
end Go.DI
namespace Go.P
open RowKit VB VarM BP RL DI WideMaps Maps
end Go.P
