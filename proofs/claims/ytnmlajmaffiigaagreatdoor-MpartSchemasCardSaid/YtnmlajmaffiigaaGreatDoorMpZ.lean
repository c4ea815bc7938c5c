/- One name changed into z: the schema stays valid, its Id changes; a file is not read with it. -/
import Derived.Test.YtnmlajmaffiigaaGreatDoorMpU
import Derived.Test.YtnmlajmaffiigaaGreatDoorBt7b
import Derived.Test.YtnmlajmaffiigaaGreatDoorBt2
import Derived.Deep.RegionLawGrows
import Derived.Deep.CutRange
import Derived.BigQuiet
set_option linter.constructorNameAsVariable false
open Go Go.Proofs Go.Proofs.YtnmlajmaffiigaaGreatDoor Go.P
namespace Go.SC
open RowKit VB VL
def RowC(T:TypeId)(w:World)(base g c:Nat)(cs:List Col):Prop:=OwnC T w base (.slice (some ⟨g,0,none⟩) cs.length c) cs
theorem OwnC.form{T:TypeId}{w:World}{base:Nat}{v:Value}{cs:List Col}(h:OwnC T w base v cs)(h1:1<=cs.length):∃g c,v=.slice (some ⟨g,0,none⟩) cs.length c/\RowC T w base g c cs/\base<=g/\g<w.heap.size/\cs.length<=c/\c<=maxLen:=by
 have Aa:=h.lt
 rcases h.2 with⟨_,hn⟩ | ⟨g,c,Ab,rfl,hb,_,h3,h4,_⟩
 ·omega
 ·exact⟨g,c,rfl,h,hb,(Aa g rfl).2,h3,h4⟩
theorem addr0(g n:Nat):(⟨g,0,none⟩:Addr).add n=⟨g,n,none⟩:=by
 unfold Addr.add
 by_cases h:n=0
 ·rw[if_pos h,h]
 ·rw[if_neg h,Nat.zero_add]
theorem RowC.at4{T:TypeId}{w:World}{base g c:Nat}{cs:List Col}(h:RowC T w base g c cs){i:Nat}(hi:i<cs.length):At4 w ⟨g,0,none⟩ i (cs.getD i col0):=by
 obtain⟨A,c',hv,_,_,hr⟩:=OwnC.read h
 obtain⟨ad,h1,_,h3⟩:=hr i hi
 injection hv with a _ _
 rw[←a] at h1
 obtain rfl:=Option.some.inj h1
 exact h3
theorem Bc4:∀(cs:List Col)(i k:Nat)(x:Value)(c':Col),i<cs.length->k<4->(cs.getD i col0).cells.set k x=c'.cells->(Ab2 cs).set (i*4+k) x=Ab2 (cs.set i c')
 | [],_,_,_,_,h,_,_=>absurd h (Nat.not_lt_zero _)
 | c::r,0,k,x,c',_,hk,he=>by
   show(c.cells++Ab2 r).set (0*4+k) x=c'.cells++Ab2 r
   rw[Nat.zero_mul,Nat.zero_add,List.set_append,if_pos (show k<c.cells.length from hk)]
   rw[show c.cells.set k x=c'.cells from he]
 | c::r,i+1,k,x,c',h,hk,he=>by
   show(c.cells++Ab2 r).set ((i+1)*4+k) x=c.cells++Ab2 (r.set i c')
   rw[List.set_append,if_neg (show ¬(i+1)*4+k<c.cells.length from by show ¬_<4;omega),show(i+1)*4+k-c.cells.length=i*4+k from by show _-4=_;omega,
    Bc4 r i k x c' (by simpa using h) hk he]
theorem RowC.store{T:TypeId}{w:World}{base g c:Nat}{cs:List Col}(h:RowC T w base g c cs)(i k:Nat)(x:Value)(c':Col)(hi:i<cs.length)(hk:k<4)(he:(cs.getD i col0).cells.set k x=c'.cells):
   RowC T (w.setCell ⟨g,i*4+k,none⟩ x) base g c (cs.set i c'):=by
 have h2:=(World.ownsRow.stored h (i*4+k) x).1
 unfold RowC OwnC
 rw[List.length_set,←Bc4 cs i k x c' hi hk he]
 exact h2
theorem Av3{w w':World}(h:w.grownBy w' none):Below w.heap.size w w':=⟨h.os,h.tape,h.output,h.size,fun k hk=>h.block k hk (by simp)⟩
theorem RowC.other{T:TypeId}{w:World}{base g c b i:Nat}{cs:List Col}(h:RowC T w base g c cs)(hb:b≠g)(x:Value):RowC T (w.setCell ⟨b,i,none⟩ x) base g c cs:=
 ownsRow_setCell_other h (a:=⟨b,i,none⟩) (fun e=>hb (Option.some.inj e).symm) x
theorem RowC.below{T:TypeId}{w w':World}{base g c:Nat}{cs:List Col}(h:RowC T w base g c cs)(hb:Below w.heap.size w w'):RowC T w' base g c cs:=OwnC.below h hb
theorem RowC.alloc{T:TypeId}{w:World}{base g c:Nat}{cs:List Col}(h:RowC T w base g c cs)(o:Obj):RowC T (w.alloc o) base g c cs:=OwnC.alloc h o
theorem RowC.frozenAt{T:TypeId}{w:World}{base g c:Nat}{cs:List Col}(h:RowC T w base g c cs)(n:Nat):w.frozen? ⟨g,n,none⟩=false:=by
 exact World.ownsRow.frozenAt h n
theorem RowC.nameAt{T:TypeId}{w:World}{base g c:Nat}{cs:List Col}(h:RowC T w base g c cs){i:Nat}(hi:i<cs.length):w.cell? ⟨g,i*4,none⟩=some (.string (cs.getD i col0).nm):=by
 have:=(h.at4 hi).c0
 rw[addr0] at this;exact this
theorem Cp4{w:World}{B:Nat}{ad:Addr}{c:Nat}{cs:List Col}(h:RdC w B (.slice (some ad) cs.length c) cs):∀(j:Nat)u,(Ab2 cs)[j]?=some u->w.cell? (ad.add j)=some u:=by
 intro j u hj
 have Ab:=(List.getElem?_eq_some_iff.1 hj).1
 rw[Ar0] at Ab
 have hi:j/4<cs.length:=by omega
 obtain⟨A,c',hv,_,_,hr⟩:=h
 obtain⟨Ac,h1,_,Aa⟩:=hr (j/4) hi
 injection hv with a _ _
 rw[←a] at h1
 obtain rfl:=Option.some.inj h1
 have hd:j/4*4+j%4=j:=by omega
 rw[←hd,Ar1 cs (j/4) (j%4) hi (by omega)] at hj
 have hm:j%4=0\/j%4=1\/j%4=2\/j%4=3:=by omega
 rw[←hd]
 rcases hm with e | e | e | e
 ·rw[e] at hj⊢
  rw[Nat.add_zero]
  exact Aa.c0.trans (by simpa[Col.cells] using hj)
 ·rw[e] at hj⊢
  rw[Bq5 _ _ _ (by decide)]
  exact Aa.c1.trans (by simpa[Col.cells] using hj)
 ·rw[e] at hj⊢
  rw[Bq5 _ _ _ (by decide)]
  exact Aa.c2.trans (by simpa[Col.cells] using hj)
 ·rw[e] at hj⊢
  rw[Bq5 _ _ _ (by decide)]
  exact Aa.c3.trans (by simpa[Col.cells] using hj)
end Go.SC
namespace Go.SC
open RowKit VB VL CR VarM VS CK Go.ST MK RS ZN MP
def zS:ByteArray:=⟨#[122]⟩
def Bd7(cs:List Col)(p:Nat):List Col:=cs.set p ⟨zS,(cs.getD p col0).ty,(cs.getD p col0).sc,(cs.getD p col0).nu⟩
theorem Ar7(cs:List Col)(p:Nat):(Bd7 cs p).length=cs.length:=List.length_set
theorem Bg9{cs:List Col}{p:Nat}(hp:p<cs.length):(Bd7 cs p).getD p col0=⟨zS,(cs.getD p col0).ty,(cs.getD p col0).sc,(cs.getD p col0).nu⟩:=by
 unfold Bd7
 rw[List.getD_eq_getElem?_getD,List.getElem?_set_self hp];rfl
theorem Ba0{cs:List Col}{p i:Nat}(h:i≠p):(Bd7 cs p).getD i col0=cs.getD i col0:=by
 unfold Bd7
 rw[List.getD_eq_getElem?_getD,List.getElem?_set_ne (fun e=>h e.symm),←List.getD_eq_getElem?_getD]
theorem z_name:Aj8 zS=true:=by decide +kernel
theorem Ds2(n:Nat)(h:n<4):str [UInt8.ofNat (97+n)]≠zS:=by
 match n,h with
 | 0,_=>decide
 | 1,_=>decide
 | 2,_=>decide
 | 3,_=>decide
theorem Bs2{cs:List Col}{key:Int}{p:Nat}(h:KOK cs key)(hp:p<cs.length):Ad9 (Bd7 cs p) key=0:=by
 obtain⟨h1,h4,hk,k0,k1⟩:=h
 rw[Bf3 (by rw[Ar7];omega) (by rw[Ar7];omega),if_neg (by rw[Ar7];omega)]
 intro i hi
 rw[Ar7] at hi
 obtain⟨a,b,c,d,e⟩:=hk i hi
 have Ab:∀j,j<cs.length->((Bd7 cs p).getD j col0).nm=if j=p then zS else str [UInt8.ofNat (97+(cs.length-1-j))]:=fun j hj=>by
  by_cases hjp:j=p
  ·rw[if_pos hjp,hjp,Bg9 hp]
  ·rw[if_neg hjp,Ba0 hjp];exact(hk j hj).1
 have Aa:((Bd7 cs p).getD i col0).ty=(cs.getD i col0).ty/\((Bd7 cs p).getD i col0).sc=(cs.getD i col0).sc:=by
  by_cases hip:i=p
  ·rw[hip,Bg9 hp];exact⟨rfl,rfl⟩
  ·rw[Ba0 hip];exact⟨rfl,rfl⟩
 have hn:Aj8 ((Bd7 cs p).getD i col0).nm=true:=by
  rw[Ab i hi]
  split
  ·exact z_name
  ·exact Et6 _ (by omega)
 rw[Al8 hn ?_ (by rw[Aa.1];exact b),Aa.1,Aa.2,if_neg (by omega)]
 rintro⟨j,hj,he⟩
 rw[Ab i hi,Ab j (by omega)] at he
 by_cases h1:j=p<;>by_cases h2:i=p
 ·omega
 ·rw[if_pos h1,if_neg h2] at he;exact Ds2 _ (by omega) he.symm
 ·rw[if_neg h1,if_pos h2] at he;exact Ds2 _ (by omega) he
 ·rw[if_neg h1,if_neg h2] at he
  have:=Bj0 (by omega) (by omega) he
  omega
theorem Ee2{ty sc:Int}(h:okT ty=true):∃a b r,Ce5 ty sc=a::b::r:=by
 rcases Aq5 h with rfl | rfl | rfl | rfl | rfl<;>exact⟨_,_,_,rfl⟩
theorem Di7{cs:List Col}{p:Nat}(hp:p<cs.length):txC cs=txC (cs.take p)++(colL (cs.getD p col0)++[10])++txC (cs.drop (p+1)):=by
 have h:cs=cs.take (p+1)++cs.drop (p+1):=(List.take_append_drop _ _).symm
 conv=>lhs;rw[h]
 rw[←Bd4 hp]
 unfold txC
 rw[List.flatMap_append]
theorem Ex6{cs:List Col}{key:Int}{p:Nat}(h:KOK cs key)(hp:p<cs.length)(Ae:key≠p):IDN cs key≠IDN (Bd7 cs p) key:=by
 have Ad:=kokc h
 have Ac:=Bs2 h hp
 obtain⟨h1,h4,hk,k0,k1⟩:=h
 rw[Bq6 Ad,Bq6 Ac]
 intro he
 obtain⟨a,b,c,d,e⟩:=hk p hp
 obtain⟨t1,t2,tr,Ab⟩:=Ee2 (sc:=(cs.getD p col0).sc) b
 have Aa:(Bd7 cs p).getD key.toNat col0=cs.getD key.toNat col0:=Ba0 (by omega)
 have e1:Bc3 cs key=txC (cs.take p)++[UInt8.ofNat (97+(cs.length-1-p)),32,t1,t2]++(tr++Ca3 (cs.getD p col0).nu++[10]++txC (cs.drop (p+1))++(Fh6++32::((cs.getD key.toNat col0).nm.data.toList++[10]))):=by
  unfold Bc3
  rw[Di7 hp]
  unfold colL
  rw[a,Ab7,Ab]
  simp
 have e2:Bc3 (Bd7 cs p) key=txC (cs.take p)++[122,32,t1,t2]++(tr++Ca3 (cs.getD p col0).nu++[10]++txC (cs.drop (p+1))++(Fh6++32::((cs.getD key.toNat col0).nm.data.toList++[10]))):=by
  unfold Bc3
  rw[Di7 (by rw[Ar7];exact hp),Aa,Bg9 hp]
  have ht:(Bd7 cs p).take p=cs.take p:=by unfold Bd7;rw[List.take_set];rw[List.set_eq_of_length_le (by rw[List.length_take];omega)]
  have hd:(Bd7 cs p).drop (p+1)=cs.drop (p+1):=by unfold Bd7;rw[List.drop_set_of_lt (by omega)]
  rw[ht,hd]
  unfold colL
  simp only
  rw[Ab]
  simp[zS]
 rw[e1,e2] at he
 have hb:=Dj6 _ _ rfl rfl he
 have h2:UInt8.ofNat (97+(cs.length-1-p))=122:=by
  injection hb
 exact Ds2 (cs.length-1-p) (by omega) (by rw[h2];rfl)
end Go.SC
namespace Go.MP
open RowKit VB VarM VS VL SC CK Go.ST MK RS ZN
theorem Dh8{x:Int}(h:-1000000<=x/\x<=1000000):wrap64 x=x:=by unfold wrap64;omega
theorem Fc5{x:Int}(h:-1000000<=x/\x<=1000000):IntKind.i64.wrap x=x:=IntWalk.i64_in _ ⟨by omega,by omega⟩
theorem mod_at(a:Nat){n:Nat}(hn:1<=n):∃p:Nat,p<n/\Int.tmod (a:Int) (n:Int)=(p:Int):=⟨a%n,Nat.mod_lt _ hn,rfl⟩
theorem opn_z{cs:List Col}{key:Int}{l:List Rc}{p:Nat}(hk:KOK cs key)(S:Srt cs key l)(hl:l.length<=1024)(h0:l.length≠0)(hb:InR l)(hp:p<cs.length)(Ab:key≠p):(opn (Bd7 cs p) key (str (Aa9 cs key l))).1=1:=by
 obtain⟨_,hd,_⟩:=Bi3 (cs:=cs) (key:=key) (file:=str (Aa9 cs key l)) (by rw[Bo2 S hl h0 hb])
 have hc:=Bs2 hk hp
 have Aa:=Ex6 hk hp Ab
 have h2:Ac6 (At9 (str (Aa9 cs key l))) 0=IDN cs key:=by
  refine Decidable.byContradiction fun hn=>?_
  have h1:=Cq2 S.sch hd hn
  rw[Bo2 S hl h0 hb] at h1
  exact absurd (congrArg Prod.fst h1) (by show ¬(0:Nat)=1;decide)
 rw[Cq2 hc hd (by rw[h2];exact Aa)]
end Go.MP
