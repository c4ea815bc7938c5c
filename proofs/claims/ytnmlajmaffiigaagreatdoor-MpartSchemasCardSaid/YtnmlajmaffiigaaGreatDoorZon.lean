/- Texts of one part, joined. -/
import Derived.Test.YtnmlajmaffiigaaGreatDoorGw
import Derived.Test.YtnmlajmaffiigaaGreatDoorGb
import Derived.Deep.RegionWith
import Derived.Test.YtnmlajmaffiigaaGreatDoorBtO
import Derived.Test.YtnmlajmaffiigaaGreatDoorGa
import Derived.Deep.CutRange
set_option linter.constructorNameAsVariable false
set_option maxRecDepth 100000
set_option maxHeartbeats 4000000
open Go Go.Proofs Go.Proofs.YtnmlajmaffiigaaGreatDoor Go.P
namespace Go.ZN
open RowKit VB VS VL CK VarM
structure Zn where
 rows:Int
 nulls:Int
 mn:Vl
 mx:Vl
def Zn.val(z:Zn):Value:=.agg #[.int .i64 z.rows,.int .i64 z.nulls,.bool z.mn.nu,.int .i64 z.mn.n,.string z.mn.s,.bool z.mx.nu,.int .i64 z.mx.n,.string z.mx.s]
def nulV:Vl:=⟨true,0,⟨#[]⟩⟩
def Bm5(typ:Int)(a b:Vl):Int:=cmp typ a.nu a.n a.s b.nu b.n b.s
theorem Bw1(typ:Int)(a b:Vl):-1<=Bm5 typ a b/\Bm5 typ a b<=1:=Cv9 ..
theorem Ap2(typ:Int)(a b:Vl):Bm5 typ b a = -Bm5 typ a b:=Bk7 ..
theorem Dz2{typ:Int}{a b c:Vl}(h1:Bm5 typ a b<=0)(h2:Bm5 typ b c<=0):Bm5 typ a c<=0:=Cv8 h1 h2
def pck(typ sg:Int)(a b:Vl):Vl:=if a.nu then(if b.nu then nulV else b) else if b.nu then a else if Bm5 typ b a=sg then b else a
theorem Bz9{typ sg:Int}{a b:Vl}(ha:a.nu=true)(hb:b.nu=true):pck typ sg a b=nulV:=by unfold pck;rw[if_pos ha,if_pos hb]
theorem Eh0{typ sg:Int}{a b:Vl}(ha:a.nu=true)(hb:b.nu=false):pck typ sg a b=b:=by unfold pck;rw[if_pos ha,if_neg (by rw[hb];decide)]
theorem Bz8{typ sg:Int}{a b:Vl}(ha:a.nu=false)(hb:b.nu=true):pck typ sg a b=a:=by unfold pck;rw[if_neg (by rw[ha];decide),if_pos hb]
theorem Er9{typ sg:Int}{a b:Vl}(ha:a.nu=false)(hb:b.nu=false):pck typ sg a b=if Bm5 typ b a=sg then b else a:=by unfold pck;rw[if_neg (by rw[ha];decide),if_neg (by rw[hb];decide)]
def Nrm(x:Vl):Prop:=x.nu=true->x=nulV
theorem Ch2:Nrm nulV:=fun _=>rfl
theorem Bt7{x:Vl}(h:x.nu=false):Nrm x:=fun e=>by rw[h] at e;cases e
theorem Do5(typ sg:Int)(a b:Vl):Nrm (pck typ sg a b):=by
 cases ha:a.nu with
 | true=>
   cases hb:b.nu with
   | true=>rw[Bz9 ha hb];exact Ch2
   | false=>rw[Eh0 ha hb];exact Bt7 hb
 | false=>
   cases hb:b.nu with
   | true=>rw[Bz8 ha hb];exact Bt7 ha
   | false=>
     rw[Er9 ha hb]
     split
     ·exact Bt7 hb
     ·exact Bt7 ha
theorem Cq0{typ sg:Int}{a b:Vl}(ha:Nrm a)(hb:b.nu=true):pck typ sg a b=a:=by
 cases h:a.nu with
 | true=>rw[Bz9 h hb,ha h]
 | false=>exact Bz8 h hb
def stp(typ:Int)(st:Nat×Vl×Vl)(x:Vl):Nat×Vl×Vl:=if x.nu then(st.1+1,st.2.1,st.2.2) else(st.1,pck typ (-1) st.2.1 x,pck typ 1 st.2.2 x)
def stz(typ:Int)(l:List Vl):Nat×Vl×Vl:=l.foldl (stp typ) (0,nulV,nulV)
def zof(typ:Int)(l:List Vl):Zn:=⟨l.length,(stz typ l).1,(stz typ l).2.1,(stz typ l).2.2⟩
theorem Aw4(typ:Int)(l:List Vl)(x:Vl):stz typ (l++[x])=stp typ (stz typ l) x:=by unfold stz;rw[List.foldl_append];rfl
theorem Cn7{typ:Int}{l:List Vl}{j:Nat}{x:Vl}(h:l[j]?=some x):stz typ (l.take (j+1))=stp typ (stz typ (l.take j)) x:=by
 rw[List.take_add_one,h];exact Aw4 typ _ x
theorem Bs6{p:List Vl->Prop}(h0:p [])(h1:∀l x,p l->p (l++[x]))(l:List Vl):p l:=by
 have:∀n(l:List Vl),l.length=n->p l:=by
  intro n
  induction n with
  | zero=>intro l hl;rw[List.eq_nil_of_length_eq_zero hl];exact h0
  | succ n ih=>
    intro l hl
    have Aa:l≠[]:=fun e=>by rw[e] at hl;cases hl
    rw[←List.dropLast_concat_getLast Aa]
    exact h1 _ _ (ih _ (by rw[List.length_dropLast];omega))
 exact this l.length l rfl
theorem Cf6(typ:Int)(l:List Vl):Nrm (stz typ l).2.1/\Nrm (stz typ l).2.2:=by
 refine Bs6 (p:=fun l=>Nrm (stz typ l).2.1/\Nrm (stz typ l).2.2) ⟨Ch2,Ch2⟩ (fun l x h=>?_) l
 rw[Aw4]
 unfold stp
 split
 ·exact h
 ·exact⟨Do5 _ _ _ _,Do5 _ _ _ _⟩
theorem Ex1{typ:Int}{st:Nat×Vl×Vl}{x:Vl}(h1:Nrm st.2.1)(h2:Nrm st.2.2):stp typ st x=(st.1+(if x.nu then 1 else 0),pck typ (-1) st.2.1 x,pck typ 1 st.2.2 x):=by
 unfold stp
 cases hx:x.nu with
 | true=>rw[if_pos rfl,if_pos rfl,Cq0 h1 hx,Cq0 h2 hx]
 | false=>rfl
theorem Bx8(typ:Int)(l:List Vl):(stz typ l).1<=l.length:=by
 refine Bs6 (p:=fun l=>(stz typ l).1<=l.length) (Q1 _) (fun l x h=>?_) l
 rw[Aw4,Q5,List.length_singleton]
 unfold stp
 split
 ·exact Nat.succ_le_succ h
 ·exact Nat.le_succ_of_le h
theorem Bx9(typ:Int)(l:List Vl):(stz typ l).1=l.countP Vl.nu:=by
 refine Bs6 (p:=fun l=>(stz typ l).1=l.countP Vl.nu) rfl (fun l x h=>?_) l
 rw[Aw4,List.countP_append,←h]
 unfold stp
 cases hx:x.nu with
 | true=>simp[hx]
 | false=>simp[hx]
def isM(typ sg:Int)(l:List Vl)(m:Vl):Prop:=((∀x∈l,x.nu=true)/\m=nulV)\/(m∈l/\m.nu=false/\∀x∈l,x.nu=false->Bm5 typ x m≠sg)
theorem Cr7{typ sg:Int}(hs:sg = -1\/sg=1){x m k:Vl}(h1:Bm5 typ x m≠sg)(h2:Bm5 typ m k≠sg):Bm5 typ x k≠sg:=by
 obtain⟨a1,a2⟩:=Bw1 typ x m
 obtain⟨b1,b2⟩:=Bw1 typ m k
 obtain⟨c1,c2⟩:=Bw1 typ x k
 rcases hs with rfl | rfl
 ·have e1:=Ap2 typ x m
  have e2:=Ap2 typ m k
  have e3:=Ap2 typ x k
  have:=Dz2 (typ:=typ) (a:=k) (b:=m) (c:=x) (by omega) (by omega)
  omega
 ·have:=Dz2 (typ:=typ) (a:=x) (b:=m) (c:=k) (by omega) (by omega)
  omega
theorem nb_of{typ sg:Int}(hs:sg = -1\/sg=1){a b:Vl}(h:Bm5 typ b a=sg):Bm5 typ a b≠sg:=by
 have:=Ap2 typ b a
 omega
theorem Ds7(typ sg:Int):isM typ sg [] nulV:=.inl ⟨fun _ h=>by simp at h,rfl⟩
theorem Ds6{typ sg:Int}(hs:sg = -1\/sg=1){x:Vl}(hx:x.nu=false):isM typ sg [x] x:=by
 refine .inr ⟨List.mem_singleton.2 rfl,hx,fun y hy _=>?_⟩
 rw[List.mem_singleton.1 hy]
 have:=Ap2 typ x x
 omega
theorem Ds5{typ sg:Int}(hs:sg = -1\/sg=1){l l':List Vl}{a b:Vl}(ha:isM typ sg l a)(hb:isM typ sg l' b):isM typ sg (l++l') (pck typ sg a b):=by
 rcases ha with⟨ha,rfl⟩ | ⟨a1,a2,a3⟩
 ·rcases hb with⟨hb,rfl⟩ | ⟨b1,b2,b3⟩
  ·refine .inl ⟨fun x hx=>?_,Bz9 rfl rfl⟩
   rcases List.mem_append.1 hx with h | h
   ·exact ha x h
   ·exact hb x h
  ·rw[Eh0 rfl b2]
   refine .inr ⟨List.mem_append_right _ b1,b2,fun x hx hn=>?_⟩
   rcases List.mem_append.1 hx with h | h
   ·rw[ha x h] at hn;cases hn
   ·exact b3 x h hn
 ·rcases hb with⟨hb,rfl⟩ | ⟨b1,b2,b3⟩
  ·rw[Bz8 a2 rfl]
   refine .inr ⟨List.mem_append_left _ a1,a2,fun x hx hn=>?_⟩
   rcases List.mem_append.1 hx with h | h
   ·exact a3 x h hn
   ·rw[hb x h] at hn;cases hn
  ·rw[Er9 a2 b2]
   split
   ·rename_i h
    refine .inr ⟨List.mem_append_right _ b1,b2,fun x hx hn=>?_⟩
    rcases List.mem_append.1 hx with hx | hx
    ·exact Cr7 hs (a3 x hx hn) (nb_of hs h)
    ·exact b3 x hx hn
   ·rename_i h
    refine .inr ⟨List.mem_append_left _ a1,a2,fun x hx hn=>?_⟩
    rcases List.mem_append.1 hx with hx | hx
    ·exact a3 x hx hn
    ·exact Cr7 hs (b3 x hx hn) h
theorem Cs6{typ sg:Int}{l:List Vl}{m x:Vl}(h:isM typ sg l m)(hx:x.nu=true):isM typ sg (l++[x]) m:=by
 rcases h with⟨h,rfl⟩ | ⟨h1,h2,h3⟩
 ·refine .inl ⟨fun y hy=>?_,rfl⟩
  rcases List.mem_append.1 hy with hy | hy
  ·exact h y hy
  ·rw[List.mem_singleton.1 hy];exact hx
 ·refine .inr ⟨List.mem_append_left _ h1,h2,fun y hy hn=>?_⟩
  rcases List.mem_append.1 hy with hy | hy
  ·exact h3 y hy hn
  ·rw[List.mem_singleton.1 hy,hx] at hn;cases hn
theorem Ci2(typ:Int)(l:List Vl):isM typ (-1) l (stz typ l).2.1/\isM typ 1 l (stz typ l).2.2:=by
 refine Bs6 (p:=fun l=>isM typ (-1) l (stz typ l).2.1/\isM typ 1 l (stz typ l).2.2) ⟨Ds7 ..,Ds7 ..⟩ (fun l x h=>?_) l
 rw[Aw4]
 unfold stp
 cases hx:x.nu with
 | true=>rw[if_pos rfl];exact⟨Cs6 h.1 hx,Cs6 h.2 hx⟩
 | false=>
   rw[if_neg (by decide)]
   exact⟨Ds5 (.inl rfl) h.1 (Ds6 (.inl rfl) hx),Ds5 (.inr rfl) h.2 (Ds6 (.inr rfl) hx)⟩
def veq(a b:Vl):Bool:=a.nu==b.nu&&(a.n==b.n&&a.s.toList==b.s.toList)
theorem Cf2(a:Vl):veq a a=true:=by unfold veq;simp
theorem veq_iff{a b:Vl}:veq a b=true↔a=b:=by
 constructor
 ·intro h
  obtain⟨a1,a2,a3⟩:=a
  obtain⟨b1,b2,b3⟩:=b
  simp only[veq,Bool.and_eq_true,beq_iff_eq] at h
  obtain⟨h1,h2,h3⟩:=h
  rw[h1,h2,toList_inj h3]
 ·rintro rfl;exact Cf2 a
def Dg6(ty:Int)(nu:Bool)(p:Int)(a b:Vl):Bool:=
 if p=0 then veq a nulV&&veq b nulV
 else if a.nu\/b.nu\/Ae6 ty nu a≠0\/Ae6 ty nu b≠0 then false
 else decide (Bm5 ty a b=0\/(Bm5 ty a b<0/\1<p))
def Er2(ty:Int)(nu:Bool)(z:Zn):Bool:=
 if okT ty=false\/z.nulls<0\/z.rows<z.nulls\/4096<z.rows\/(0<z.nulls/\nu=false) then false else Dg6 ty nu (z.rows-z.nulls) z.mn z.mx
theorem Ec9{ty:Int}{nu:Bool}{z:Zn}(h:okT ty=false\/z.nulls<0\/z.rows<z.nulls\/4096<z.rows\/(0<z.nulls/\nu=false)):Er2 ty nu z=false:=if_pos h
theorem Cm3{ty:Int}{nu:Bool}{z:Zn}(h:¬(okT ty=false\/z.nulls<0\/z.rows<z.nulls\/4096<z.rows\/(0<z.nulls/\nu=false))):Er2 ty nu z=Dg6 ty nu (z.rows-z.nulls) z.mn z.mx:=if_neg h
theorem Ec8{ty:Int}{nu:Bool}(hT:okT ty=true){l:List Vl}(hl:l.length<=4096)(hv:∀x∈l,Ae6 ty nu x=0):Er2 ty nu (zof ty l)=true:=by
 have Ai:=Bx8 ty l
 have Ac:∀x∈l,x.nu=true->nu=true:=fun x hx h=>by
  have h0:=hv x hx
  unfold Ae6 at h0
  rw[h,Bk8 hT] at h0
  by_cases hc:x.n≠0\/x.s.size≠0
  ·rw[if_pos hc] at h0;cases h0
  ·rw[if_neg hc] at h0
   cases hn:nu with
   | true=>rfl
   | false=>rw[hn] at h0;cases h0
 have Ah:¬(okT ty=false\/(zof ty l).nulls<0\/(zof ty l).rows<(zof ty l).nulls\/4096<(zof ty l).rows\/(0<(zof ty l).nulls/\nu=false)):=by
  show ¬(okT ty=false\/((stz ty l).1:Int)<0\/(l.length:Int)<(stz ty l).1\/4096<(l.length:Int)\/(0<((stz ty l).1:Int)/\nu=false))
  rintro(h | h | h | h | ⟨h,h'⟩)
  ·rw[hT] at h;cases h
  ·omega
  ·omega
  ·omega
  ·rw[Bx9] at h
   have hp:0<l.countP Vl.nu:=by omega
   obtain⟨x,hx,hn⟩:=List.countP_pos_iff.1 hp
   rw[Ac x hx hn] at h';cases h'
 rw[Cm3 Ah]
 show Dg6 ty nu ((l.length:Int)-(stz ty l).1) (stz ty l).2.1 (stz ty l).2.2=true
 obtain⟨Ae,Ad⟩:=Ci2 ty l
 have hc:=Bx9 ty l
 unfold Dg6
 by_cases h0:(l.length:Int)-(stz ty l).1=0
 ·rw[if_pos h0]
  have Ab:∀x∈l,x.nu=true:=List.countP_eq_length.1 (by omega)
  have e1:(stz ty l).2.1=nulV:=by
   rcases Ae with⟨_,h⟩ | ⟨h,h',_⟩
   ·exact h
   ·rw[Ab _ h] at h';cases h'
  have e2:(stz ty l).2.2=nulV:=by
   rcases Ad with⟨_,h⟩ | ⟨h,h',_⟩
   ·exact h
   ·rw[Ab _ h] at h';cases h'
  rw[e1,e2,Cf2];rfl
 ·rw[if_neg h0]
  have Af:¬∀x∈l,x.nu=true:=fun h=>by
   have:=List.countP_eq_length.2 h
   omega
  rcases Ae with⟨h,_⟩ | ⟨a1,a2,a3⟩
  ·exact absurd h Af
  rcases Ad with⟨h,_⟩ | ⟨b1,b2,b3⟩
  ·exact absurd h Af
  rw[if_neg (by rw[a2,b2,hv _ a1,hv _ b1];rintro(h | h | h | h)<;>first | cases h | exact h rfl)]
  refine Q4 ?_
  have e1:=a3 _ b1 b2
  have e2:=b3 _ a1 a2
  have e3:=Ap2 ty (stz ty l).2.1 (stz ty l).2.2
  obtain⟨c1,c2⟩:=Bw1 ty (stz ty l).2.1 (stz ty l).2.2
  by_cases hq:Bm5 ty (stz ty l).2.1 (stz ty l).2.2=0
  ·exact .inl hq
  ·refine .inr ⟨by omega,?_⟩
   by_cases h1:1<(l.length:Int)-(stz ty l).1
   ·exact h1
   ·exfalso
    have Aa:l.countP (fun x=>!x.nu)=1:=by
     have:=List.length_eq_countP_add_countP Vl.nu (l:=l)
     have e:l.countP (fun a=>¬a.nu=true)=l.countP (fun x=>!x.nu):=by
      congr 1;funext a;cases a.nu<;>rfl
     omega
    rw[List.countP_eq_length_filter,List.length_eq_one_iff] at Aa
    obtain⟨q,Ag⟩:=Aa
    have m1:(stz ty l).2.1∈l.filter (fun x=>!x.nu):=List.mem_filter.2 ⟨a1,by rw[a2];rfl⟩
    have m2:(stz ty l).2.2∈l.filter (fun x=>!x.nu):=List.mem_filter.2 ⟨b1,by rw[b2];rfl⟩
    rw[Ag,List.mem_singleton] at m1 m2
    rw[m1,m2] at hq
    have:=Ap2 ty q q
    omega
end Go.ZN
namespace Go.ZN
open RowKit VB VS VL
theorem Al9{w w1:World}{n:Nat}{x y z:Value}{T:TypeId}(hn:w.heap.size=n)(hb:Below (w.alloc (.cells #[x,y,z] T)).heap.size (w.alloc (.cells #[x,y,z] T)) w1):Var3 w1 n x y z:=by
 subst hn;exact(Var3.new w x y z T).step hb
theorem Ar5{w:World}{b c:Nat}{x y z:Value}(h:Var3 w b x y z)(hc:b≠c)(i:Nat)(u:Value):Var3 (w.setCell ⟨c,i,none⟩ u) b x y z:=by
 have hk:∀(i j:Nat),(⟨c,i,none⟩:Addr)≠⟨b,j,none⟩:=fun i j e=>hc (congrArg Addr.block e).symm
 constructor
 ·rw[World.cell?_setCell_other _ _ _ _ (hk _ _)];exact h.c0
 ·rw[World.cell?_setCell_other _ _ _ _ (hk _ _)];exact h.c1
 ·rw[World.cell?_setCell_other _ _ _ _ (hk _ _)];exact h.c2
 ·rw[World.frozen?_setCell];exact h.f0
 ·rw[World.frozen?_setCell];exact h.f1
 ·rw[World.frozen?_setCell];exact h.f2
structure VarZ(w:World)(b:Nat)(z:Zn):Prop where
 c0:w.cell? ⟨b,0,none⟩=some (.int .i64 z.rows)
 c1:w.cell? ⟨b,1,none⟩=some (.int .i64 z.nulls)
 c2:w.cell? ⟨b,2,none⟩=some (.bool z.mn.nu)
 c3:w.cell? ⟨b,3,none⟩=some (.int .i64 z.mn.n)
 c4:w.cell? ⟨b,4,none⟩=some (.string z.mn.s)
 c5:w.cell? ⟨b,5,none⟩=some (.bool z.mx.nu)
 c6:w.cell? ⟨b,6,none⟩=some (.int .i64 z.mx.n)
 c7:w.cell? ⟨b,7,none⟩=some (.string z.mx.s)
 fr:∀i,i<8->w.frozen? ⟨b,i,none⟩=false
section
variable {w w' w0:World} {b c B:Nat} {z:Zn} {x y u:Value}
theorem VarZ.new(w:World)(z:Zn)(T:TypeId):VarZ (w.alloc (.cells #[.int .i64 (z.rows),.int .i64 (z.nulls),.bool (z.mn.nu),.int .i64 (z.mn.n),.string (z.mn.s),.bool (z.mx.nu),.int .i64 (z.mx.n),.string (z.mx.s)] T)) w.heap.size z:=by
 constructor
 ·simp
 ·simp
 ·simp
 ·simp
 ·simp
 ·simp
 ·simp
 ·simp
 ·intro i hi
  simp
theorem VarZ.frz(h:VarZ w b z):w.frozen? ⟨b,0,none⟩=false/\w.frozen? ⟨b,1,none⟩=false/\w.frozen? ⟨b,2,none⟩=false/\w.frozen? ⟨b,3,none⟩=false/\w.frozen? ⟨b,4,none⟩=false/\w.frozen? ⟨b,5,none⟩=false/\w.frozen? ⟨b,6,none⟩=false/\w.frozen? ⟨b,7,none⟩=false:=
 ⟨h.fr 0 (by decide),h.fr 1 (by decide),h.fr 2 (by decide),h.fr 3 (by decide),h.fr 4 (by decide),h.fr 5 (by decide),h.fr 6 (by decide),h.fr 7 (by decide)⟩
theorem VarZ.lt(h:VarZ w b z):b<w.heap.size:=World.block_lt_of_cell? w _ h.c0
theorem VarZ.below(h:VarZ w b z)(hb:Below B w w')(hB:b<B):VarZ w' b z:=by
 constructor
 ·rw[hb.cell hB];exact h.c0
 ·rw[hb.cell hB];exact h.c1
 ·rw[hb.cell hB];exact h.c2
 ·rw[hb.cell hB];exact h.c3
 ·rw[hb.cell hB];exact h.c4
 ·rw[hb.cell hB];exact h.c5
 ·rw[hb.cell hB];exact h.c6
 ·rw[hb.cell hB];exact h.c7
 ·intro i hi;rw[hb.frozen hB];exact h.fr i hi
theorem VarZ.step(h:VarZ w b z)(hb:Below w.heap.size w w'):VarZ w' b z:=h.below hb h.lt
theorem VarZ.alloc(h:VarZ w b z)(o:Obj):VarZ (w.alloc o) b z:=h.step ((Q2 _ _).alloc (Q1 _) o)
theorem VarZ.other(h:VarZ w b z)(hc:b≠c)(i:Nat)(x:Value):VarZ (w.setCell ⟨c,i,none⟩ x) b z:=by
 have hk:∀(i j:Nat),(⟨c,i,none⟩:Addr)≠⟨b,j,none⟩:=fun i j e=>hc (congrArg Addr.block e).symm
 constructor
 ·rw[World.cell?_setCell_other _ _ _ _ (hk _ _)];exact h.c0
 ·rw[World.cell?_setCell_other _ _ _ _ (hk _ _)];exact h.c1
 ·rw[World.cell?_setCell_other _ _ _ _ (hk _ _)];exact h.c2
 ·rw[World.cell?_setCell_other _ _ _ _ (hk _ _)];exact h.c3
 ·rw[World.cell?_setCell_other _ _ _ _ (hk _ _)];exact h.c4
 ·rw[World.cell?_setCell_other _ _ _ _ (hk _ _)];exact h.c5
 ·rw[World.cell?_setCell_other _ _ _ _ (hk _ _)];exact h.c6
 ·rw[World.cell?_setCell_other _ _ _ _ (hk _ _)];exact h.c7
 ·intro i hi;rw[World.frozen?_setCell];exact h.fr i hi
theorem VarZ.set0(h:VarZ w b z)(n:Int):VarZ (w.setCell ⟨b,0,none⟩ (.int .i64 n)) b ⟨n,z.nulls,z.mn,z.mx⟩:=by
 constructor
 ·rw[World.cell?_setCell_same _ _ _ h.c0]
 ·rw[World.cell?_setCell_other _ _ _ _ (by simp)];exact h.c1
 ·rw[World.cell?_setCell_other _ _ _ _ (by simp)];exact h.c2
 ·rw[World.cell?_setCell_other _ _ _ _ (by simp)];exact h.c3
 ·rw[World.cell?_setCell_other _ _ _ _ (by simp)];exact h.c4
 ·rw[World.cell?_setCell_other _ _ _ _ (by simp)];exact h.c5
 ·rw[World.cell?_setCell_other _ _ _ _ (by simp)];exact h.c6
 ·rw[World.cell?_setCell_other _ _ _ _ (by simp)];exact h.c7
 ·intro i hi;rw[World.frozen?_setCell];exact h.fr i hi
theorem VarZ.set1(h:VarZ w b z)(n:Int):VarZ (w.setCell ⟨b,1,none⟩ (.int .i64 n)) b ⟨z.rows,n,z.mn,z.mx⟩:=by
 constructor
 ·rw[World.cell?_setCell_other _ _ _ _ (by simp)];exact h.c0
 ·rw[World.cell?_setCell_same _ _ _ h.c1]
 ·rw[World.cell?_setCell_other _ _ _ _ (by simp)];exact h.c2
 ·rw[World.cell?_setCell_other _ _ _ _ (by simp)];exact h.c3
 ·rw[World.cell?_setCell_other _ _ _ _ (by simp)];exact h.c4
 ·rw[World.cell?_setCell_other _ _ _ _ (by simp)];exact h.c5
 ·rw[World.cell?_setCell_other _ _ _ _ (by simp)];exact h.c6
 ·rw[World.cell?_setCell_other _ _ _ _ (by simp)];exact h.c7
 ·intro i hi;rw[World.frozen?_setCell];exact h.fr i hi
theorem VarZ.setV(h:VarZ w b z)(k:Nat)(hk:k=2\/k=5)(v:Vl):VarZ (((w.setCell ⟨b,k,none⟩ (.bool v.nu)).setCell ⟨b,k+1,none⟩ (.int .i64 v.n)).setCell ⟨b,k+2,none⟩ (.string v.s)) b (if k=2 then⟨z.rows,z.nulls,v,z.mx⟩ else⟨z.rows,z.nulls,z.mn,v⟩):=by
 have o:∀(w:World)(i j:Nat)(x y:Value),i≠j->w.cell? ⟨b,j,none⟩=some y->(w.setCell ⟨b,i,none⟩ x).cell? ⟨b,j,none⟩=some y:=fun w i j x y hij hy=>by
  rw[World.cell?_setCell_other _ _ _ _ (fun e=>hij (congrArg Addr.off e))];exact hy
 have s:∀(w:World)(i:Nat)(x y:Value),w.cell? ⟨b,i,none⟩=some y->(w.setCell ⟨b,i,none⟩ x).cell? ⟨b,i,none⟩=some x:=fun w i x y hy=>World.cell?_setCell_same _ _ _ hy
 rcases hk with rfl | rfl
 ·rw[if_pos rfl]
  constructor
  ·exact o _ _ _ _ _ (by decide) (o _ _ _ _ _ (by decide) (o _ _ _ _ _ (by decide) h.c0))
  ·exact o _ _ _ _ _ (by decide) (o _ _ _ _ _ (by decide) (o _ _ _ _ _ (by decide) h.c1))
  ·exact o _ _ _ _ _ (by decide) (o _ _ _ _ _ (by decide) (s _ _ _ _ h.c2))
  ·exact o _ _ _ _ _ (by decide) (s _ _ _ _ (o _ _ _ _ _ (by decide) h.c3))
  ·exact s _ _ _ _ (o _ _ _ _ _ (by decide) (o _ _ _ _ _ (by decide) h.c4))
  ·exact o _ _ _ _ _ (by decide) (o _ _ _ _ _ (by decide) (o _ _ _ _ _ (by decide) h.c5))
  ·exact o _ _ _ _ _ (by decide) (o _ _ _ _ _ (by decide) (o _ _ _ _ _ (by decide) h.c6))
  ·exact o _ _ _ _ _ (by decide) (o _ _ _ _ _ (by decide) (o _ _ _ _ _ (by decide) h.c7))
  ·intro i hi;rw[World.frozen?_setCell,World.frozen?_setCell,World.frozen?_setCell];exact h.fr i hi
 ·rw[if_neg (by decide)]
  constructor
  ·exact o _ _ _ _ _ (by decide) (o _ _ _ _ _ (by decide) (o _ _ _ _ _ (by decide) h.c0))
  ·exact o _ _ _ _ _ (by decide) (o _ _ _ _ _ (by decide) (o _ _ _ _ _ (by decide) h.c1))
  ·exact o _ _ _ _ _ (by decide) (o _ _ _ _ _ (by decide) (o _ _ _ _ _ (by decide) h.c2))
  ·exact o _ _ _ _ _ (by decide) (o _ _ _ _ _ (by decide) (o _ _ _ _ _ (by decide) h.c3))
  ·exact o _ _ _ _ _ (by decide) (o _ _ _ _ _ (by decide) (o _ _ _ _ _ (by decide) h.c4))
  ·exact o _ _ _ _ _ (by decide) (o _ _ _ _ _ (by decide) (s _ _ _ _ h.c5))
  ·exact o _ _ _ _ _ (by decide) (s _ _ _ _ (o _ _ _ _ _ (by decide) h.c6))
  ·exact s _ _ _ _ (o _ _ _ _ _ (by decide) (o _ _ _ _ _ (by decide) h.c7))
  ·intro i hi;rw[World.frozen?_setCell,World.frozen?_setCell,World.frozen?_setCell];exact h.fr i hi
theorem VarZ.setMn(h:VarZ w b z)(v:Vl):VarZ (((w.setCell ⟨b,2,none⟩ (.bool v.nu)).setCell ⟨b,3,none⟩ (.int .i64 v.n)).setCell ⟨b,4,none⟩ (.string v.s)) b ⟨z.rows,z.nulls,v,z.mx⟩:=h.setV 2 (.inl rfl) v
theorem VarZ.setMx(h:VarZ w b z)(v:Vl):VarZ (((w.setCell ⟨b,5,none⟩ (.bool v.nu)).setCell ⟨b,6,none⟩ (.int .i64 v.n)).setCell ⟨b,7,none⟩ (.string v.s)) b ⟨z.rows,z.nulls,z.mn,v⟩:=h.setV 5 (.inr rfl) v
def Ez0(w:World)(b:Nat)(z:Zn):World:=(((((((w.setCell ⟨b,0,none⟩ (.int .i64 z.rows)).setCell ⟨b,1,none⟩ (.int .i64 z.nulls)).setCell ⟨b,2,none⟩ (.bool z.mn.nu)).setCell ⟨b,3,none⟩ (.int .i64 z.mn.n)).setCell ⟨b,4,none⟩ (.string z.mn.s)).setCell ⟨b,5,none⟩ (.bool z.mx.nu)).setCell ⟨b,6,none⟩ (.int .i64 z.mx.n)).setCell ⟨b,7,none⟩ (.string z.mx.s)
theorem VarZ.put{z':Zn}(h:VarZ w b z')(z:Zn):VarZ (Ez0 w b z) b z:=((((h.set0 z.rows).set1 z.nulls).setMn z.mn).setMx z.mx)
theorem An2{z:Zn}(h:Below B w0 w)(hB:B<=b):Below B w0 (Ez0 w b z):=
 (((((((h.setCell (p:=⟨b,0,none⟩) hB _).setCell (p:=⟨b,1,none⟩) hB _).setCell (p:=⟨b,2,none⟩) hB _).setCell (p:=⟨b,3,none⟩) hB _).setCell (p:=⟨b,4,none⟩) hB _).setCell (p:=⟨b,5,none⟩) hB _).setCell (p:=⟨b,6,none⟩) hB _).setCell (p:=⟨b,7,none⟩) hB _
theorem Ai8{k:Nat}(h:Below B w0 w)(hB:B<=b):Below B w0 (((w.setCell ⟨b,k,none⟩ x).setCell ⟨b,k+1,none⟩ y).setCell ⟨b,k+2,none⟩ u):=
 ((h.setCell (p:=⟨b,k,none⟩) hB x).setCell (p:=⟨b,k+1,none⟩) hB y).setCell (p:=⟨b,k+2,none⟩) hB u
end
end Go.ZN
namespace Go.P
open RowKit VB VL VS ZN
theorem Bf6(w:World):Calls Tryz.prog 125 #[] w (RetB (.agg #[.bool true,.int .i64 0,.string ⟨#[]⟩]) w):=by
 have hb:Below w.heap.size w (w.alloc (.cells #[.bool true,.int .i64 0,.string ⟨#[]⟩] 49)):=(Q2 _ _).alloc (Q1 _) _
 go_enter Tryz.func125,Tryz.ntmps125
 go_wp2
 refine bodyPost_ret (v:=(.agg #[.bool true,.int .i64 0,.string ⟨#[]⟩])) (by simp[results,Tryz.results125,go_sem]) rfl ?_
 exact RetB.mk rfl hb
theorem Bn5(w:World):Calls Tryz.prog 66 #[] w (RetB (.agg #[.bool true,.int .i64 0,.string ⟨#[]⟩]) w):=by
 have hb:Below w.heap.size w (w.alloc (.cells #[.bool true,.int .i64 0,.string ⟨#[]⟩] 49)):=(Q2 _ _).alloc (Q1 _) _
 go_enter Tryz.func66,Tryz.ntmps66
 go_wp2
 refine bodyPost_ret (v:=(.agg #[.bool true,.int .i64 0,.string ⟨#[]⟩])) (by simp[results,Tryz.results66,go_sem]) rfl ?_
 exact RetB.mk rfl hb
theorem only_v(n:Int)(s:ByteArray)(y:Bool)(m:Int)(t:ByteArray)(w:World):Calls Tryz.prog 160 #[(.agg #[.bool false,.int .i64 n,.string s]),(.agg #[.bool y,.int .i64 m,.string t])] w (RetB (.agg #[.bool false,.int .i64 n,.string s]) w):=by
 go_enter Tryz.func160,Tryz.ntmps160
 go_wp2
 refine bodyPost_ret (v:=(.agg #[.bool false,.int .i64 n,.string s])) (by simp[results,Tryz.results160,go_sem]) rfl ?_
 exact RetB.mk rfl (by go_grown)
theorem only_n(n:Int)(s:ByteArray)(m:Int)(t:ByteArray)(w:World):Calls Tryz.prog 160 #[(.agg #[.bool true,.int .i64 n,.string s]),(.agg #[.bool false,.int .i64 m,.string t])] w (RetB (.agg #[.bool false,.int .i64 m,.string t]) w):=by
 go_enter Tryz.func160,Tryz.ntmps160
 go_wp2
 refine bodyPost_ret (v:=(.agg #[.bool false,.int .i64 m,.string t])) (by simp[results,Tryz.results160,go_sem]) rfl ?_
 exact RetB.mk rfl (by go_grown)
theorem Ez7(n:Int)(s:ByteArray)(m:Int)(t:ByteArray)(w:World):Calls Tryz.prog 160 #[(.agg #[.bool true,.int .i64 n,.string s]),(.agg #[.bool true,.int .i64 m,.string t])] w (RetB (.agg #[.bool true,.int .i64 0,.string ⟨#[]⟩]) w):=by
 have H:=fun w=>Hd (Bf6 w)
 go_enter Tryz.func160,Tryz.ntmps160
 go_wp2_with fail
 (with_reducible refine(H _).out.mono ?_);rintro e w1 ⟨rfl,hb⟩
 have hV:=Al9 (n:=w.heap.size+1+1) (by simp) hb
 have hB:=Aa0 (show Below w.heap.size w _ from by go_grown) hb
 obtain⟨k0,k1,k2,g0,g1,g2⟩:=id hV
 go_wp2
 obtain⟨m0,m1,m2,_,_,_⟩:=hV.set (.bool true) (.int .i64 0) (.string ⟨#[]⟩)
 refine bodyPost_ret (v:=(.agg #[.bool true,.int .i64 0,.string ⟨#[]⟩])) (by simp[results,Tryz.results160,go_sem,m0,m1,m2]) rfl ?_
 exact RetB.mk rfl (Ae1 hB (by omega) _ _ _)
theorem Cq5(x:Bool)(n:Int)(s:ByteArray)(y:Bool)(m:Int)(t:ByteArray)(ty sg:Int)(w:World)(h:x=true\/y=true):
   Calls Tryz.prog 160 #[(.agg #[.bool x,.int .i64 n,.string s]),(.agg #[.bool y,.int .i64 m,.string t])] w (RetB (pck ty sg ⟨x,n,s⟩ ⟨y,m,t⟩).val w):=by
 cases x with
 | false=>
   cases y with
   | false=>rcases h with h | h<;>cases h
   | true=>rw[Bz8 rfl rfl];exact only_v n s true m t w
 | true=>
   cases y with
   | false=>rw[Eh0 rfl rfl];exact only_n n s m t w
   | true=>rw[Bz9 rfl rfl];exact Ez7 n s m t w
theorem Bo6(ty:Int)(x:Bool)(n:Int)(s:ByteArray)(y:Bool)(m:Int)(t:ByteArray)(w:World)(h:x=true\/y=true):
   Calls Tryz.prog 126 #[.int .i64 ty,(.agg #[.bool x,.int .i64 n,.string s]),(.agg #[.bool y,.int .i64 m,.string t])] w (RetB (pck ty (-1) ⟨x,n,s⟩ ⟨y,m,t⟩).val w):=by
 have H:=fun w=>Hd (Cq5 x n s y m t ty (-1) w h)
 generalize pck ty (-1) ⟨x,n,s⟩ ⟨y,m,t⟩=R at *
 obtain⟨r1,r2,r3⟩:=R
 simp only[Vl.val] at H⊢
 have hx:(x=true)\/(x=false/\y=true):=by
  cases x
  ·right;rcases h with h | h
   ·cases h
   ·exact⟨rfl,h⟩
  ·left;rfl
 rcases hx with rfl | ⟨rfl,rfl⟩
 all_goals
  go_enter Tryz.func126,Tryz.ntmps126
  go_wp2_with fail
  (with_reducible refine(H _).out.mono ?_);rintro e w1 ⟨rfl,hb⟩
  have hV:=Al9 (n:=w.heap.size+1+1) (by simp) hb
  have hB:=Aa0 (show Below w.heap.size w _ from by go_grown) hb
  obtain⟨k0,k1,k2,g0,g1,g2⟩:=id hV
  go_wp2
  obtain⟨m0,m1,m2,_,_,_⟩:=hV.set (.bool r1) (.int .i64 r2) (.string r3)
  refine bodyPost_ret (v:=(.agg #[.bool r1,.int .i64 r2,.string r3])) (by simp[results,Tryz.results126,go_sem,m0,m1,m2]) rfl ?_
  exact RetB.mk rfl (Ae1 hB (by omega) _ _ _)
theorem Db8(ty:Int)(n:Int)(s:ByteArray)(m:Int)(t:ByteArray)(w:World):
   Calls Tryz.prog 126 #[.int .i64 ty,(.agg #[.bool false,.int .i64 n,.string s]),(.agg #[.bool false,.int .i64 m,.string t])] w (RetB (pck ty (-1) ⟨false,n,s⟩ ⟨false,m,t⟩).val w):=by
 have H:=fun w=>Hd (Bw0 ty false m t false n s w)
 have hp:pck ty (-1) ⟨false,n,s⟩ ⟨false,m,t⟩=if cmp ty false m t false n s=(-1) then⟨false,m,t⟩ else⟨false,n,s⟩:=rfl
 rw[hp];clear hp
 have Aa:=Cv9 ty false m t false n s
 generalize cmp ty false m t false n s=c at *
 by_cases hc:c=(-1)
 ·rw[if_pos hc]
  have hd:decide (c <0)=true:=Q4 (by omega)
  clear hc Aa
  simp only[Vl.val]
  go_enter Tryz.func126,Tryz.ntmps126
  go_wp2_with fail
  (with_reducible refine(H _).out.mono ?_);rintro e w1 ⟨rfl,hb⟩
  have hW:=Al9 (n:=w.heap.size+1+1) (by simp) hb
  have hX:=(Var3.new (w.alloc (.cells #[.bool false,.int .i64 n,.string s] 49)) (.bool false) (.int .i64 m) (.string t) 49).step ((Q2 _ _).alloc (Q1 _) (.cells #[.bool false,.int .i64 0,.string ⟨#[]⟩] 49)) |>.step hb
  rw[show(w.alloc (.cells #[.bool false,.int .i64 n,.string s] 49)).heap.size=w.heap.size+1 from by simp] at hX
  have hB:=Aa0 (show Below w.heap.size w _ from by go_grown) hb
  obtain⟨k0,k1,k2,g0,g1,g2⟩:=id hW
  obtain⟨j0,j1,j2,_,_,_⟩:=hX
  go_wp2
  obtain⟨m0,m1,m2,_,_,_⟩:=hW.set (.bool false) (.int .i64 m) (.string t)
  refine bodyPost_ret (v:=(.agg #[.bool false,.int .i64 m,.string t])) (by simp[results,Tryz.results126,go_sem,m0,m1,m2]) rfl ?_
  exact RetB.mk rfl (Ae1 hB (by omega) _ _ _)
 ·rw[if_neg hc]
  have hd:decide (c <0)=false:=Q3 (by omega)
  clear hc Aa
  simp only[Vl.val]
  go_enter Tryz.func126,Tryz.ntmps126
  go_wp2_with fail
  (with_reducible refine(H _).out.mono ?_);rintro e w1 ⟨rfl,hb⟩
  have hW:=Al9 (n:=w.heap.size+1+1) (by simp) hb
  have hX:=(Var3.new w (.bool false) (.int .i64 n) (.string s) 49).step ((Q2 _ _).alloc (Q1 _) (.cells #[.bool false,.int .i64 m,.string t] 49)) |>.step ((Q2 _ _).alloc (Q1 _) (.cells #[.bool false,.int .i64 0,.string ⟨#[]⟩] 49)) |>.step hb
  have hB:=Aa0 (show Below w.heap.size w _ from by go_grown) hb
  obtain⟨k0,k1,k2,g0,g1,g2⟩:=id hW
  obtain⟨j0,j1,j2,_,_,_⟩:=hX
  go_wp2
  obtain⟨m0,m1,m2,_,_,_⟩:=hW.set (.bool false) (.int .i64 n) (.string s)
  refine bodyPost_ret (v:=(.agg #[.bool false,.int .i64 n,.string s])) (by simp[results,Tryz.results126,go_sem,m0,m1,m2]) rfl ?_
  exact RetB.mk rfl (Ae1 hB (by omega) _ _ _)
theorem Db9(ty:Int)(x:Bool)(n:Int)(s:ByteArray)(y:Bool)(m:Int)(t:ByteArray)(w:World):
   Calls Tryz.prog 126 #[.int .i64 ty,(.agg #[.bool x,.int .i64 n,.string s]),(.agg #[.bool y,.int .i64 m,.string t])] w (RetB (pck ty (-1) ⟨x,n,s⟩ ⟨y,m,t⟩).val w):=by
 cases x with
 | false=>
   cases y with
   | false=>exact Db8 ty n s m t w
   | true=>exact Bo6 ty false n s true m t w (.inr rfl)
 | true=>exact Bo6 ty true n s y m t w (.inl rfl)
theorem Bj3(ty:Int)(x:Bool)(n:Int)(s:ByteArray)(y:Bool)(m:Int)(t:ByteArray)(w:World)(h:x=true\/y=true):
   Calls Tryz.prog 127 #[.int .i64 ty,(.agg #[.bool x,.int .i64 n,.string s]),(.agg #[.bool y,.int .i64 m,.string t])] w (RetB (pck ty (1) ⟨x,n,s⟩ ⟨y,m,t⟩).val w):=by
 have H:=fun w=>Hd (Cq5 x n s y m t ty (1) w h)
 generalize pck ty (1) ⟨x,n,s⟩ ⟨y,m,t⟩=R at *
 obtain⟨r1,r2,r3⟩:=R
 simp only[Vl.val] at H⊢
 have hx:(x=true)\/(x=false/\y=true):=by
  cases x
  ·right;rcases h with h | h
   ·cases h
   ·exact⟨rfl,h⟩
  ·left;rfl
 rcases hx with rfl | ⟨rfl,rfl⟩
 all_goals
  go_enter Tryz.func127,Tryz.ntmps127
  go_wp2_with fail
  (with_reducible refine(H _).out.mono ?_);rintro e w1 ⟨rfl,hb⟩
  have hV:=Al9 (n:=w.heap.size+1+1) (by simp) hb
  have hB:=Aa0 (show Below w.heap.size w _ from by go_grown) hb
  obtain⟨k0,k1,k2,g0,g1,g2⟩:=id hV
  go_wp2
  obtain⟨m0,m1,m2,_,_,_⟩:=hV.set (.bool r1) (.int .i64 r2) (.string r3)
  refine bodyPost_ret (v:=(.agg #[.bool r1,.int .i64 r2,.string r3])) (by simp[results,Tryz.results127,go_sem,m0,m1,m2]) rfl ?_
  exact RetB.mk rfl (Ae1 hB (by omega) _ _ _)
theorem Ci4(ty:Int)(n:Int)(s:ByteArray)(m:Int)(t:ByteArray)(w:World):
   Calls Tryz.prog 127 #[.int .i64 ty,(.agg #[.bool false,.int .i64 n,.string s]),(.agg #[.bool false,.int .i64 m,.string t])] w (RetB (pck ty (1) ⟨false,n,s⟩ ⟨false,m,t⟩).val w):=by
 have H:=fun w=>Hd (Bw0 ty false m t false n s w)
 have hp:pck ty (1) ⟨false,n,s⟩ ⟨false,m,t⟩=if cmp ty false m t false n s=(1) then⟨false,m,t⟩ else⟨false,n,s⟩:=rfl
 rw[hp];clear hp
 have Aa:=Cv9 ty false m t false n s
 generalize cmp ty false m t false n s=c at *
 by_cases hc:c=(1)
 ·rw[if_pos hc]
  have hd:decide (c >0)=true:=Q4 (by omega)
  clear hc Aa
  simp only[Vl.val]
  go_enter Tryz.func127,Tryz.ntmps127
  go_wp2_with fail
  (with_reducible refine(H _).out.mono ?_);rintro e w1 ⟨rfl,hb⟩
  have hW:=Al9 (n:=w.heap.size+1+1) (by simp) hb
  have hX:=(Var3.new (w.alloc (.cells #[.bool false,.int .i64 n,.string s] 49)) (.bool false) (.int .i64 m) (.string t) 49).step ((Q2 _ _).alloc (Q1 _) (.cells #[.bool false,.int .i64 0,.string ⟨#[]⟩] 49)) |>.step hb
  rw[show(w.alloc (.cells #[.bool false,.int .i64 n,.string s] 49)).heap.size=w.heap.size+1 from by simp] at hX
  have hB:=Aa0 (show Below w.heap.size w _ from by go_grown) hb
  obtain⟨k0,k1,k2,g0,g1,g2⟩:=id hW
  obtain⟨j0,j1,j2,_,_,_⟩:=hX
  go_wp2
  obtain⟨m0,m1,m2,_,_,_⟩:=hW.set (.bool false) (.int .i64 m) (.string t)
  refine bodyPost_ret (v:=(.agg #[.bool false,.int .i64 m,.string t])) (by simp[results,Tryz.results127,go_sem,m0,m1,m2]) rfl ?_
  exact RetB.mk rfl (Ae1 hB (by omega) _ _ _)
 ·rw[if_neg hc]
  have hd:decide (c >0)=false:=Q3 (by omega)
  clear hc Aa
  simp only[Vl.val]
  go_enter Tryz.func127,Tryz.ntmps127
  go_wp2_with fail
  (with_reducible refine(H _).out.mono ?_);rintro e w1 ⟨rfl,hb⟩
  have hW:=Al9 (n:=w.heap.size+1+1) (by simp) hb
  have hX:=(Var3.new w (.bool false) (.int .i64 n) (.string s) 49).step ((Q2 _ _).alloc (Q1 _) (.cells #[.bool false,.int .i64 m,.string t] 49)) |>.step ((Q2 _ _).alloc (Q1 _) (.cells #[.bool false,.int .i64 0,.string ⟨#[]⟩] 49)) |>.step hb
  have hB:=Aa0 (show Below w.heap.size w _ from by go_grown) hb
  obtain⟨k0,k1,k2,g0,g1,g2⟩:=id hW
  obtain⟨j0,j1,j2,_,_,_⟩:=hX
  go_wp2
  obtain⟨m0,m1,m2,_,_,_⟩:=hW.set (.bool false) (.int .i64 n) (.string s)
  refine bodyPost_ret (v:=(.agg #[.bool false,.int .i64 n,.string s])) (by simp[results,Tryz.results127,go_sem,m0,m1,m2]) rfl ?_
  exact RetB.mk rfl (Ae1 hB (by omega) _ _ _)
theorem Ci5(ty:Int)(x:Bool)(n:Int)(s:ByteArray)(y:Bool)(m:Int)(t:ByteArray)(w:World):
   Calls Tryz.prog 127 #[.int .i64 ty,(.agg #[.bool x,.int .i64 n,.string s]),(.agg #[.bool y,.int .i64 m,.string t])] w (RetB (pck ty (1) ⟨x,n,s⟩ ⟨y,m,t⟩).val w):=by
 cases x with
 | false=>
   cases y with
   | false=>exact Ci4 ty n s m t w
   | true=>exact Bj3 ty false n s true m t w (.inr rfl)
 | true=>exact Bj3 ty true n s y m t w (.inl rfl)
end Go.P
namespace Go.ZN
open RowKit VB VS VL
def zn0:Zn:=⟨0,0,vl0,vl0⟩
def incW(w:World)(b k:Nat):World:=w.setCell ⟨b,1,none⟩ (.int .i64 (k:Int))
theorem Et7{w:World}{b k:Nat}{z:Zn}(h:VarZ w b z):VarZ (incW w b k) b ⟨z.rows,k,z.mn,z.mx⟩:=h.set1 _
theorem Et8{w:World}{b c k:Nat}{z:Zn}(h:VarZ w b z)(hc:b≠c):VarZ (incW w c k) b z:=h.other hc 1 _
theorem Et9{B b k:Nat}{w0 w:World}(h:Below B w0 w)(hB:B<=b):Below B w0 (incW w b k):=h.setCell (p:=⟨b,1,none⟩) hB _
theorem Dt0(w:World)(b k:Nat):(incW w b k).heap.size=w.heap.size:=World.size_setCell _ _ _
def Ec6(ty:Int)(n:Nat)(l:List Vl)(j:Nat):Zn:=⟨n,(stz ty (l.take j)).1,(stz ty (l.take j)).2.1,(stz ty (l.take j)).2.2⟩
theorem Cm1{ty:Int}{n:Nat}{l:List Vl}(h:n=l.length):Ec6 ty n l n=zof ty l:=by subst h;unfold Ec6 zof;rw[List.take_length]
theorem Bq7{ty:Int}{n:Nat}{l:List Vl}{j k:Nat}{a b:Vl}(h:stz ty (l.take j)=(k,a,b)):Ec6 ty n l j=⟨n,k,a,b⟩:=by unfold Ec6;rw[h]
end Go.ZN
namespace Go.P
open RowKit VB VL VS ZN
theorem Ax4(ty sg:Int)(x:Bool)(n:Int)(s:ByteArray)(y:Bool)(m:Int)(t:ByteArray)(w:World):
   Calls Tryz.prog 67 #[.int .i64 ty,.int .i64 sg,(.agg #[.bool x,.int .i64 n,.string s]),(.agg #[.bool y,.int .i64 m,.string t])] w (RetB (pck ty sg ⟨x,n,s⟩ ⟨y,m,t⟩).val w):=by
 have HN:=fun w=>Hd (Bn5 w)
 have HC:=fun w=>Hd (Cp5 ty false m t false n s w)
 cases x with
 | true=>
   cases y with
   | true=>
     rw[Bz9 rfl rfl]
     simp only[Vl.val,nulV]
     go_enter Tryz.func67,Tryz.ntmps67
     go_wp2_with fail
     (with_reducible refine(HN _).out.mono ?_);rintro e w1 ⟨rfl,hb⟩
     have hW:=Al9 (n:=w.heap.size+1+1) (by simp) hb
     have hB:=Aa0 (show Below w.heap.size w _ from by go_grown) hb
     obtain⟨k0,k1,k2,g0,g1,g2⟩:=id hW
     go_wp2
     obtain⟨m0,m1,m2,_,_,_⟩:=hW.set (.bool true) (.int .i64 0) (.string ⟨#[]⟩)
     refine bodyPost_ret (v:=(.agg #[.bool true,.int .i64 0,.string ⟨#[]⟩])) (by simp[results,Tryz.results67,go_sem,m0,m1,m2]) rfl ?_
     exact RetB.mk rfl (Ae1 hB (by omega) _ _ _)
   | false=>
     rw[Eh0 rfl rfl]
     simp only[Vl.val]
     go_enter Tryz.func67,Tryz.ntmps67
     go_wp2
     refine bodyPost_ret (v:=(.agg #[.bool false,.int .i64 m,.string t])) (by simp[results,Tryz.results67,go_sem]) rfl ?_
     exact RetB.mk rfl (by go_grown)
 | false=>
   cases y with
   | true=>
     rw[Bz8 rfl rfl]
     simp only[Vl.val]
     go_enter Tryz.func67,Tryz.ntmps67
     go_wp2
     refine bodyPost_ret (v:=(.agg #[.bool false,.int .i64 n,.string s])) (by simp[results,Tryz.results67,go_sem]) rfl ?_
     exact RetB.mk rfl (by go_grown)
   | false=>
     have hp:pck ty sg ⟨false,n,s⟩ ⟨false,m,t⟩=if cmp ty false m t false n s=sg then⟨false,m,t⟩ else⟨false,n,s⟩:=rfl
     rw[hp];clear hp
     generalize cmp ty false m t false n s=c at *
     by_cases hc:c=sg
     ·rw[if_pos hc]
      have hd:=Bm4 hc
      clear hc
      simp only[Vl.val]
      go_enter Tryz.func67,Tryz.ntmps67
      go_wp2_with fail
      (with_reducible refine(HC _).out.mono ?_);rintro e w1 ⟨rfl,hb⟩
      have hW:=Al9 (n:=w.heap.size+1+1) (by simp) hb
      have hX:=(Var3.new (w.alloc (.cells #[.bool false,.int .i64 n,.string s] 49)) (.bool false) (.int .i64 m) (.string t) 49).step ((Q2 _ _).alloc (Q1 _) (.cells #[.bool false,.int .i64 0,.string ⟨#[]⟩] 49)) |>.step hb
      rw[show(w.alloc (.cells #[.bool false,.int .i64 n,.string s] 49)).heap.size=w.heap.size+1 from by simp] at hX
      have hB:=Aa0 (show Below w.heap.size w _ from by go_grown) hb
      obtain⟨k0,k1,k2,g0,g1,g2⟩:=id hW
      obtain⟨j0,j1,j2,_,_,_⟩:=hX
      go_wp2
      obtain⟨m0,m1,m2,_,_,_⟩:=hW.set (.bool false) (.int .i64 m) (.string t)
      refine bodyPost_ret (v:=(.agg #[.bool false,.int .i64 m,.string t])) (by simp[results,Tryz.results67,go_sem,m0,m1,m2]) rfl ?_
      exact RetB.mk rfl (Ae1 hB (by omega) _ _ _)
     ·rw[if_neg hc]
      have hd:=Ab3 hc
      clear hc
      simp only[Vl.val]
      go_enter Tryz.func67,Tryz.ntmps67
      go_wp2_with fail
      (with_reducible refine(HC _).out.mono ?_);rintro e w1 ⟨rfl,hb⟩
      have hW:=Al9 (n:=w.heap.size+1+1) (by simp) hb
      have hX:=(Var3.new w (.bool false) (.int .i64 n) (.string s) 49).step ((Q2 _ _).alloc (Q1 _) (.cells #[.bool false,.int .i64 m,.string t] 49)) |>.step ((Q2 _ _).alloc (Q1 _) (.cells #[.bool false,.int .i64 0,.string ⟨#[]⟩] 49)) |>.step hb
      have hB:=Aa0 (show Below w.heap.size w _ from by go_grown) hb
      obtain⟨k0,k1,k2,g0,g1,g2⟩:=id hW
      obtain⟨j0,j1,j2,_,_,_⟩:=hX
      go_wp2
      obtain⟨m0,m1,m2,_,_,_⟩:=hW.set (.bool false) (.int .i64 n) (.string s)
      refine bodyPost_ret (v:=(.agg #[.bool false,.int .i64 n,.string s])) (by simp[results,Tryz.results67,go_sem,m0,m1,m2]) rfl ?_
      exact RetB.mk rfl (Ae1 hB (by omega) _ _ _)
theorem Ev6(ty:Int)(v:Value)(l:List Vl)(W:World)(hr:RdL W W.heap.size v l):Calls Tryz.prog 86 #[.int .i64 ty,v] W (RetB (zof ty l).val W):=by
 obtain⟨A,c,n,rfl,hn,Bf,Bb⟩:=hr.bds
 have HR:=Hd hr;clear hr
 have Bd:=Hd hn
 have HN:=fun w=>Hd (Bf6 w)
 have HL:=fun x n s y m t w=>Hd (Db9 ty x n s y m t w)
 have HG:=fun x n s y m t w=>Hd (Ci5 ty x n s y m t w)
 have Bi:=Hd (VarZ.new W zn0 59)
 have Bj:=Hd ((Q2 W.heap.size W).alloc (Q1 _) (.cells #[.int .i64 0,.int .i64 0,.bool false,.int .i64 0,.string ⟨#[]⟩,.bool false,.int .i64 0,.string ⟨#[]⟩] 59))
 have Bh:=Hd (show(W.alloc (.cells #[.int .i64 0,.int .i64 0,.bool false,.int .i64 0,.string ⟨#[]⟩,.bool false,.int .i64 0,.string ⟨#[]⟩] 59)).heap.size=W.heap.size+1 by simp)
 have Bm:n<=9223372036854775807:=Nat.le_trans Bf Bb
 clear hn Bf Bb
 go_enter Tryz.func86,Tryz.ntmps86
 go_wp2_with fail
 (with_reducible refine(HN _).out.mono ?_);rintro e w1 ⟨rfl,Ar⟩
 go_wp2_with fail
 (with_reducible refine(HN _).out.mono ?_);rintro e w2 ⟨rfl,Aq⟩
 have hX:=VarZ.new w2 ⟨(n:Int),0,nulV,nulV⟩ 59
 have Ab:=(Q2 w2.heap.size w2).alloc (Q1 _) (.cells #[.int .i64 (n:Int),.int .i64 0,.bool true,.int .i64 0,.string ⟨#[]⟩,.bool true,.int .i64 0,.string ⟨#[]⟩] 59)
 have Aa:=((Bi.out.step Ar).step Aq).step Ab
 have Be:=Aa0 (Aa0 (Aa0 Bj.out Ar) Aq) Ab
 have Bn:W.heap.size<w2.heap.size:=by have:=Ar.size;have:=Aq.size;rw[Bh.out] at *;omega
 have HX:=Hd hX;have HRES:=Hd Aa;have HBX:=Hd Be
 clear Ar Aq Ab hX Aa Be
 go_wp2_with fail
 go_loopw[15] (fun iv wr=>∃j:Nat,iv=.int .i64 j/\j<=n/\Below W.heap.size W wr/\VarZ wr w2.heap.size (Ec6 ty n l j)/\VarZ wr W.heap.size zn0) (fun iv _=>n-(intOf iv).toNat)
 case atStart=>exact⟨0,rfl,Nat.zero_le _,HBX.out,HX.out,HRES.out⟩
 case round=>
  obtain⟨j,rfl,hj,Ac,hz,Aa⟩:=hrel
  have Ae:=Hd Aa;have HBEL:=Hd Ac
  by_cases hjn:j<n
  ·have Aw:l[j]?=some (l[j]'(by rw[←Bd.out];exact hjn)):=Q7 _
   obtain⟨ad,rfl,_,q0,q1,q2⟩:=(HR.out.below Ac).at Aw
   have HT:=Hd ((Cn7 (typ:=ty) Aw).trans (Ex1 (Cf6 ty _).1 (Cf6 ty _).2))
   have As:=Bx8 ty (l.take j)
   rw[List.length_take] at As
   generalize l[j]=V at q0 q1 q2 HT
   unfold Ec6 at hz
   generalize stz ty (l.take j)=st at hz HT As
   obtain⟨k,⟨mb,mi,ms⟩,⟨xb,xi,xs⟩⟩:=st
   obtain⟨vb,vi,vs⟩:=V
   simp only at q0 q1 q2 As hz HT
   have hk:k+1<=n:=by omega
   have HZ:=Hd hz
   have Bl:w2.heap.size<wr.heap.size:=hz.lt
   obtain⟨z0,z1,z2,z3,z4,z5,z6,z7,zf⟩:=hz
   have Ba:=zf 1 (by decide)
   simp only at z0 z1 z2 z3 z4 z5 z6 z7
   have hw:wrap64 ((k:Int)+1)=((k+1:Nat):Int):=by unfold wrap64;omega
   clear As Aw Aa Ac zf
   have Bk:=Hd (Et7 (k:=k+1) HZ.out);have HRt:=Hd (Et8 (c:=w2.heap.size) (k:=k+1) Ae.out (by omega));have HBt:=Hd (Et9 (b:=w2.heap.size) (k:=k+1) HBEL.out (by omega))
   cases vb
   ·have An:=VarZ.alloc HZ.out (.cells #[.bool false,.int .i64 vi,.string vs] 49)
    have Aj:=VarZ.alloc Ae.out (.cells #[.bool false,.int .i64 vi,.string vs] 49)
    have Ag:=Var3.new wr (.bool false) (.int .i64 vi) (.string vs) 49
    have Al:=Aa0 HBEL.out ((Q2 _ _).alloc (Q1 _) (.cells #[.bool false,.int .i64 vi,.string vs] 49))
    (try rw[Dt0] at Ag)
    have Az:=Hd An;have HRA:=Hd Aj;have HVA:=Hd Ag;have HBA:=Hd Al
    clear An Aj Ag Al
    go_wp2_with fail
    (with_reducible refine(HL _ _ _ _ _ _ _).out.mono ?_);rintro e w3 ⟨rfl,Ab⟩
    have Ah:=Az.out.step Ab;have hr3:=HRA.out.step Ab;have hv3:=HVA.out.step Ab;have hB3:=Aa0 HBA.out Ab
    clear Ab z0 z1 z2 z3 z4 z5 z6 z7 Ba q0 q1 q2
    generalize pck ty (-1) ⟨mb,mi,ms⟩ ⟨false,vi,vs⟩=P at HT⊢
    obtain⟨pb,pi,ps⟩:=P
    simp only[Vl.val]
    have Ai:=Hd (Ah.setMn ⟨pb,pi,ps⟩)
    have Ao:=Hd (((hr3.other (show W.heap.size≠w2.heap.size by omega) 2 (.bool pb)).other (show W.heap.size≠w2.heap.size by omega) 3 (.int .i64 pi)).other (show W.heap.size≠w2.heap.size by omega) 4 (.string ps))
    have Ap:=Hd (Ar5 (Ar5 (Ar5 hv3 (show wr.heap.size≠w2.heap.size by omega) 2 (.bool pb)) (show wr.heap.size≠w2.heap.size by omega) 3 (.int .i64 pi)) (show wr.heap.size≠w2.heap.size by omega) 4 (.string ps))
    have Ak:=Hd (Ai8 (k:=2) (x:=.bool pb) (y:=.int .i64 pi) (u:=.string ps) hB3 (show W.heap.size<=w2.heap.size by omega))
    obtain⟨_,_,g2,g3,g4,_,_,_⟩:=Ah.frz
    obtain⟨z0,z1,z2,z3,z4,z5,z6,z7,_⟩:=Ah
    obtain⟨y0,y1,y2,y3,y4,y5,y6,y7,_⟩:=Ai.out
    obtain⟨a0,a1,a2,_,_,_⟩:=hv3
    obtain⟨c0,c1,c2,_,_,_⟩:=Ap.out
    simp only at z0 z1 z2 z3 z4 z5 z6 z7 y0 y1 y2 y3 y4 y5 y6 y7
    clear hr3 hB3
    go_wp2_with fail
    (with_reducible refine(HG _ _ _ _ _ _ _).out.mono ?_);rintro e w5 ⟨rfl,Ad⟩
    have Af:=Ai.out.step Ad;have hr5:=Ao.out.step Ad;have hB5:=Aa0 Ak.out Ad
    clear Ad z0 z1 z2 z3 z4 z5 z6 z7 y0 y1 y2 y3 y4 y5 y6 y7 a0 a1 a2 c0 c1 c2 g2 g3 g4 Ai Ao Ap Ak
    generalize pck ty 1 ⟨xb,xi,xs⟩ ⟨false,vi,vs⟩=Q at HT⊢
    obtain⟨ob,oi,os⟩:=Q
    simp only[Vl.val]
    have Au:=Hd (Af.setMx ⟨ob,oi,os⟩)
    have Ax:=Hd (((hr5.other (show W.heap.size≠w2.heap.size by omega) 5 (.bool ob)).other (show W.heap.size≠w2.heap.size by omega) 6 (.int .i64 oi)).other (show W.heap.size≠w2.heap.size by omega) 7 (.string os))
    have Ay:=Hd (Ai8 (k:=5) (x:=.bool ob) (y:=.int .i64 oi) (u:=.string os) hB5 (show W.heap.size<=w2.heap.size by omega))
    obtain⟨_,_,_,_,_,g5,g6,g7⟩:=Af.frz
    obtain⟨z0,z1,z2,z3,z4,z5,z6,z7,_⟩:=Af
    simp only at z0 z1 z2 z3 z4 z5 z6 z7
    clear hr5 hB5
    go_wp2_with fail
    go_roundw
    case rel=>exact⟨j+1,by go_num,hjn,Ay.out,by rw[Bq7 (k:=k) HT.out];exact Au.out,Ax.out⟩
    case measure=>simp[intOf]<;>omega
   ·have An:=VarZ.alloc Bk.out (.cells #[.bool true,.int .i64 vi,.string vs] 49)
    have Aj:=VarZ.alloc HRt.out (.cells #[.bool true,.int .i64 vi,.string vs] 49)
    have Ag:=Var3.new (incW wr w2.heap.size (k+1)) (.bool true) (.int .i64 vi) (.string vs) 49
    have Al:=Aa0 HBt.out ((Q2 _ _).alloc (Q1 _) (.cells #[.bool true,.int .i64 vi,.string vs] 49))
    (try rw[Dt0] at Ag)
    have Az:=Hd An;have HRA:=Hd Aj;have HVA:=Hd Ag;have HBA:=Hd Al
    clear An Aj Ag Al
    go_wp2_with fail
    (with_reducible refine(HL _ _ _ _ _ _ _).out.mono ?_);rintro e w3 ⟨rfl,Ab⟩
    have Ah:=Az.out.step Ab;have hr3:=HRA.out.step Ab;have hv3:=HVA.out.step Ab;have hB3:=Aa0 HBA.out Ab
    clear Ab z0 z1 z2 z3 z4 z5 z6 z7 Ba q0 q1 q2
    generalize pck ty (-1) ⟨mb,mi,ms⟩ ⟨true,vi,vs⟩=P at HT⊢
    obtain⟨pb,pi,ps⟩:=P
    simp only[Vl.val]
    have Ai:=Hd (Ah.setMn ⟨pb,pi,ps⟩)
    have Ao:=Hd (((hr3.other (show W.heap.size≠w2.heap.size by omega) 2 (.bool pb)).other (show W.heap.size≠w2.heap.size by omega) 3 (.int .i64 pi)).other (show W.heap.size≠w2.heap.size by omega) 4 (.string ps))
    have Ap:=Hd (Ar5 (Ar5 (Ar5 hv3 (show wr.heap.size≠w2.heap.size by omega) 2 (.bool pb)) (show wr.heap.size≠w2.heap.size by omega) 3 (.int .i64 pi)) (show wr.heap.size≠w2.heap.size by omega) 4 (.string ps))
    have Ak:=Hd (Ai8 (k:=2) (x:=.bool pb) (y:=.int .i64 pi) (u:=.string ps) hB3 (show W.heap.size<=w2.heap.size by omega))
    obtain⟨_,_,g2,g3,g4,_,_,_⟩:=Ah.frz
    obtain⟨z0,z1,z2,z3,z4,z5,z6,z7,_⟩:=Ah
    obtain⟨y0,y1,y2,y3,y4,y5,y6,y7,_⟩:=Ai.out
    obtain⟨a0,a1,a2,_,_,_⟩:=hv3
    obtain⟨c0,c1,c2,_,_,_⟩:=Ap.out
    simp only at z0 z1 z2 z3 z4 z5 z6 z7 y0 y1 y2 y3 y4 y5 y6 y7
    clear hr3 hB3
    go_wp2_with fail
    (with_reducible refine(HG _ _ _ _ _ _ _).out.mono ?_);rintro e w5 ⟨rfl,Ad⟩
    have Af:=Ai.out.step Ad;have hr5:=Ao.out.step Ad;have hB5:=Aa0 Ak.out Ad
    clear Ad z0 z1 z2 z3 z4 z5 z6 z7 y0 y1 y2 y3 y4 y5 y6 y7 a0 a1 a2 c0 c1 c2 g2 g3 g4 Ai Ao Ap Ak
    generalize pck ty 1 ⟨xb,xi,xs⟩ ⟨true,vi,vs⟩=Q at HT⊢
    obtain⟨ob,oi,os⟩:=Q
    simp only[Vl.val]
    have Au:=Hd (Af.setMx ⟨ob,oi,os⟩)
    have Ax:=Hd (((hr5.other (show W.heap.size≠w2.heap.size by omega) 5 (.bool ob)).other (show W.heap.size≠w2.heap.size by omega) 6 (.int .i64 oi)).other (show W.heap.size≠w2.heap.size by omega) 7 (.string os))
    have Ay:=Hd (Ai8 (k:=5) (x:=.bool ob) (y:=.int .i64 oi) (u:=.string os) hB5 (show W.heap.size<=w2.heap.size by omega))
    obtain⟨_,_,_,_,_,g5,g6,g7⟩:=Af.frz
    obtain⟨z0,z1,z2,z3,z4,z5,z6,z7,_⟩:=Af
    simp only at z0 z1 z2 z3 z4 z5 z6 z7
    clear hr5 hB5
    go_wp2_with fail
    go_roundw
    case rel=>exact⟨j+1,by go_num,hjn,Ay.out,by rw[Bq7 (k:=(k+1)) HT.out];exact Au.out,Ax.out⟩
    case measure=>simp[intOf]<;>omega
  ·have ej:j=n:=by omega
   rw[ej,Cm1 Bd.out] at hz
   clear ej hj
   generalize hZ:zof ty l=Z at hz
   obtain⟨zr,zu,⟨mb,mi,ms⟩,⟨xb,xi,xs⟩⟩:=Z
   have Bg:=Hd hZ
   clear hZ
   have hP:=Aa.put ⟨zr,zu,⟨mb,mi,ms⟩,⟨xb,xi,xs⟩⟩
   have Bc:=Hd (An2 (z:=⟨zr,zu,⟨mb,mi,ms⟩,⟨xb,xi,xs⟩⟩) Ac (Q1 _))
   unfold Ez0 at hP Bc
   have HP:=Hd hP
   obtain⟨f0,f1,f2,f3,f4,f5,f6,f7⟩:=Aa.frz
   obtain⟨r0,r1,r2,r3,r4,r5,r6,r7,_⟩:=Aa
   obtain⟨z0,z1,z2,z3,z4,z5,z6,z7,_⟩:=hz
   simp only at z0 z1 z2 z3 z4 z5 z6 z7
   clear hP Ac
   go_wp2
   obtain⟨m0,m1,m2,m3,m4,m5,m6,m7,_⟩:=HP.out
   simp only at m0 m1 m2 m3 m4 m5 m6 m7
   refine bodyPost_ret (v:=(.agg #[.int .i64 zr,.int .i64 zu,.bool mb,.int .i64 mi,.string ms,.bool xb,.int .i64 xi,.string xs])) (by simp[results,Tryz.results86,go_sem,m0,m1,m2,m3,m4,m5,m6,m7]) rfl ?_
   exact RetB.mk (by rw[Bg.out];rfl) Bc.out
end Go.P

namespace Go.ZN
open RowKit VB VS VL CK VarM
def Bs8(z:Zn):List UInt8:=Aa4 z.rows.toNat++Aa4 z.nulls.toNat++Ai9 z.mn.nu z.mn.n z.mn.s++Ai9 z.mx.nu z.mx.n z.mx.s
theorem putV_len{b:Bool}{n:Int}{s:ByteArray}(hn:(Lit.int .i64 n).wf=true)(hs:s.size<=140737488351232):(Ai9 b n s).length<=s.size+21:=by
 unfold Ai9
 cases b with
 | true=>simp
 | false=>
   obtain⟨n1,n2⟩:=bounds_i64 hn
   obtain⟨z1,z2⟩:=Av7 n1 n2
   have l1:=Aa5 (n:=(Ai4 n).toNat) (by omega)
   have l2:=Aa5 (n:=s.size) (by omega)
   simp only[Bool.false_eq_true,if_false,Q5,Q6,Q8,Aa1]
   omega
end Go.ZN
namespace Go.P
open RowKit VB VL VS ZN CK VarM
theorem Bh1(Aa:Bool)(n:Int)(s:ByteArray)(W0:World)(hn:(Lit.int .i64 n).wf=true)(hs:s.size<=140737488351232):Calls Tryz.prog 96 #[(.agg #[.bool Aa,.int .i64 n,.string s])] W0 (RetB (.string (str (Ai9 Aa n s))) W0):=by
 cases Aa
 ·obtain⟨n1,n2⟩:=bounds_i64 hn
  obtain⟨z1,z2⟩:=Av7 n1 n2
  have HZ:=fun w=>Hd (Ax1 n w n1 n2)
  have hp:Ai9 false n s=[1]++Aa4 (Ai4 n).toNat++Aa4 s.size++s.data.toList:=rfl
  rw[hp];clear hp
  generalize Ai4 n=z at *
  obtain⟨k,rfl⟩:=Int.eq_ofNat_of_zero_le z1
  rw[Int.toNat_natCast]
  have hk:k<18446744073709551616:=by omega
  have H1:=fun w=>Hd (Ac5 k w hk)
  have H2:=fun w=>Hd (Ac5 s.size w (by omega))
  have l1:=Aa5 hk
  have l2:=Aa5 (n:=s.size) (by omega)
  generalize Aa4 k=p1 at *
  generalize Aa4 s.size=p2 at *
  have hz:(str p1).size=p1.length:=Aa3 p1
  have Ac:(str p2).size=p2.length:=Aa3 p2
  have a1:∀w,(Op.stringOp .add ⟨#[1]⟩ (str p1)).run Tryz.prog w=.ok (.string (str ([1]++p1))) w:=fun w=>by
   rw[show(⟨#[1]⟩:ByteArray)=str [1] from rfl,run_string_add_sum w _ _ (by rw[Aa3,Aa3];simp;omega),Ab8]
  have a2:∀w,(Op.stringOp .add (str ([1]++p1)) (str p2)).run Tryz.prog w=.ok (.string (str ([1]++p1++p2))) w:=fun w=>by
   rw[run_string_add_sum w _ _ (by rw[Aa3,Aa3];simp;omega),Ab8]
  have a3:∀w,(Op.stringOp .add (str ([1]++p1++p2)) s).run Tryz.prog w=.ok (.string (str ([1]++p1++p2++s.data.toList))) w:=fun w=>by
   rw[run_string_add_sum w _ _ (by rw[Aa3];simp;omega)]
   rw[show str ([1]++p1++p2)++s=str ([1]++p1++p2)++str s.data.toList from rfl,Ab8]
  have hu:IntKind.u64.wrap (s.size:Int)=(s.size:Int):=IntWalk.u64_in _ ⟨by omega,by omega⟩
  have hV:=Var3.new W0 (.bool false) (.int .i64 n) (.string s) 49
  clear z1 z2 hz Ac l1 l2
  generalize str ([1]++p1)=q1 at *
  generalize str ([1]++p1++p2)=q2 at *
  generalize str ([1]++p1++p2++s.data.toList)=q3 at *
  generalize str p1=t1 at *
  generalize str p2=t2 at *
  go_enter Tryz.func96,Tryz.ntmps96
  go_wp2_with fail
  refine Go.Confl.wp_region_confl (by simp only[List.map_cons,List.map_nil];rfl) (by kernel_rfl) (by kernel_rfl) ?_
  iterate 15
   first
   | (refine Go.Confl.chain_skip (Go.Confl.unwanted_is rfl rfl) ?_)
   | (first | apply Go.Confl.chain_is _ (Go.Confl.wanted_none rfl) | apply Go.Confl.chain_is _ (Go.Confl.wanted_is rfl rfl)
      ·intro b w hr hb K hK
       simp[Go.Confl.readFacts,Go.Confl.tmpsOf,Go.Confl.writerOf,Go.Confl.Is,Op.operands,Call.operands,List.findIdx?,List.findIdx?.go] at hr
       obtain⟨k0,k1,k2,_,_,_⟩:=hV.step hb
       go_wp2_with(first
        | (go_at_call 134;refine(HZ _).out.mono ?_;rintro e w' ⟨rfl,rfl⟩)
        | (go_at_call 48;(with_reducible refine(H1 _).out.mono ?_);rintro e w' ⟨rfl,Ab⟩)
        | (go_at_call 48;(with_reducible refine(H2 _).out.mono ?_);rintro e w' ⟨rfl,Ab⟩))
       try(simp only[hr];go_wp2)
       exact hK _ _ rfl (by first | exact Q2 _ _ | assumption))
   simp only[List.nil_append,List.cons_append]
  intro us w hp hb
  simp[Go.Confl.allPosts,Go.Confl.Is] at hp
  simp only[Go.Confl.putsFrom,hp,Act.put,List.setIfInBounds_toArray,List.set_cons_zero,List.set_cons_succ]
  go_wp2
  go_ret
  exact RetB.mk rfl (Aa0 (by go_grown) hb)
 ·have hp:str (Ai9 true n s)=⟨#[0]⟩:=rfl
  rw[hp];clear hp
  go_enter Tryz.func96,Tryz.ntmps96
  go_wp2
  go_ret
  exact RetB.mk rfl (by go_grown)
theorem Dl7(Ab Aa:Int)(mb:Bool)(mi:Int)(ms:ByteArray)(xb:Bool)(xi:Int)(xs:ByteArray)(W:World)(w0:(Lit.int .i64 Ab).wf=true)(w1:(Lit.int .i64 Aa).wf=true)(w2:(Lit.int .i64 mi).wf=true)(w3:(Lit.int .i64 xi).wf=true)(z1:ms.size<=140737488351232)(z2:xs.size<=140737488351232):
   Calls Tryz.prog 49 #[(.agg #[.int .i64 Ab,.int .i64 Aa,.bool mb,.int .i64 mi,.string ms,.bool xb,.int .i64 xi,.string xs])] W (RetB (.string (str (Bs8 ⟨Ab,Aa,⟨mb,mi,ms⟩,⟨xb,xi,xs⟩⟩))) W):=by
 have H1:∀w,Hid (0<=Ab->Calls Tryz.prog 48 #[.int .u64 Ab] w (RetB (.string (str (Aa4 Ab.toNat))) w)):=fun w=>Hd fun h=>by
  obtain⟨k,rfl⟩:=Int.eq_ofNat_of_zero_le h
  exact Ac5 k w (by have:=bounds_i64 w0;omega)
 have H2:∀w,Hid (0<=Aa->Calls Tryz.prog 48 #[.int .u64 Aa] w (RetB (.string (str (Aa4 Aa.toNat))) w)):=fun w=>Hd fun h=>by
  obtain⟨k,rfl⟩:=Int.eq_ofNat_of_zero_le h
  exact Ac5 k w (by have:=bounds_i64 w1;omega)
 have Ag:∀w,Hid (Ab<=0->Calls Tryz.prog 48 #[.int .u64 0] w (RetB (.string (str (Aa4 Ab.toNat))) w)):=fun w=>Hd fun h=>by
  rw[show Ab.toNat=0 from by omega];exact Ac5 0 w (by omega)
 have Af:∀w,Hid (Aa<=0->Calls Tryz.prog 48 #[.int .u64 0] w (RetB (.string (str (Aa4 Aa.toNat))) w)):=fun w=>Hd fun h=>by
  rw[show Aa.toNat=0 from by omega];exact Ac5 0 w (by omega)
 have H3:=fun w=>Hd (Bh1 mb mi ms w w2 z1)
 have H4:=fun w=>Hd (Bh1 xb xi xs w w3 z2)
 have l1:=Aa5 (n:=Ab.toNat) (by have:=bounds_i64 w0;omega)
 have l2:=Aa5 (n:=Aa.toNat) (by have:=bounds_i64 w1;omega)
 have l3:=putV_len (b:=mb) w2 z1
 have l4:=putV_len (b:=xb) w3 z2
 have hp:Bs8 ⟨Ab,Aa,⟨mb,mi,ms⟩,⟨xb,xi,xs⟩⟩=Aa4 Ab.toNat++Aa4 Aa.toNat++Ai9 mb mi ms++Ai9 xb xi xs:=rfl
 rw[hp];clear hp
 have HV:=Hd (show ∀w,Below (W.alloc (.cells #[.int .i64 Ab,.int .i64 Aa,.bool mb,.int .i64 mi,.string ms,.bool xb,.int .i64 xi,.string xs] 59)).heap.size (W.alloc (.cells #[.int .i64 Ab,.int .i64 Aa,.bool mb,.int .i64 mi,.string ms,.bool xb,.int .i64 xi,.string xs] 59)) w->VarZ w W.heap.size ⟨Ab,Aa,⟨mb,mi,ms⟩,⟨xb,xi,xs⟩⟩ from fun w hb=>
  (VarZ.new W ⟨Ab,Aa,⟨mb,mi,ms⟩,⟨xb,xi,xs⟩⟩ 59).step hb)
 have HB:=Hd (show Below W.heap.size W (W.alloc (.cells #[.int .i64 Ab,.int .i64 Aa,.bool mb,.int .i64 mi,.string ms,.bool xb,.int .i64 xi,.string xs] 59)) from by go_grown)
 have HE:Hid (Ab<=0->Aa<=0->str (Aa4 Aa.toNat)=str (Aa4 Ab.toNat)):=Hd fun h h'=>by rw[show Aa.toNat=0 from by omega,show Ab.toNat=0 from by omega]
 have Ad:Hid (0<=Ab->IntKind.u64.wrap Ab=Ab):=Hd fun h=>IntWalk.u64_in _ ⟨by omega,by have:=bounds_i64 w0;omega⟩
 have Ae:Hid (0<=Aa->IntKind.u64.wrap Aa=Aa):=Hd fun h=>IntWalk.u64_in _ ⟨by omega,by have:=bounds_i64 w1;omega⟩
 generalize Aa4 Ab.toNat=p1 at *
 generalize Aa4 Aa.toNat=p2 at *
 generalize Ai9 mb mi ms=p3 at *
 generalize Ai9 xb xi xs=p4 at *
 have a1:∀w,(Op.stringOp .add (str p1) (str p2)).run Tryz.prog w=.ok (.string (str (p1++p2))) w:=fun w=>by
  rw[run_string_add_sum w _ _ (by rw[Aa3,Aa3];omega),Ab8]
 have a2:∀w,(Op.stringOp .add (str (p1++p2)) (str p3)).run Tryz.prog w=.ok (.string (str (p1++p2++p3))) w:=fun w=>by
  rw[run_string_add_sum w _ _ (by rw[Aa3,Aa3,Q5];omega),Ab8]
 have a3:∀w,(Op.stringOp .add (str (p1++p2++p3)) (str p4)).run Tryz.prog w=.ok (.string (str (p1++p2++p3++p4))) w:=fun w=>by
  rw[run_string_add_sum w _ _ (by rw[Aa3,Aa3,Q5,Q5];omega),Ab8]
 clear l1 l2 l3 l4
 generalize str (p1++p2)=q1 at *
 generalize str (p1++p2++p3)=q2 at *
 generalize str (p1++p2++p3++p4)=q3 at *
 generalize str p1=t1 at *
 generalize str p2=t2 at *
 generalize str p3=t3 at *
 generalize str p4=t4 at *
 have hr:(∃k:Nat,Ab=(k:Int)/\0<k/\IntKind.u64.wrap (k:Int)=(k:Int)/\(∀w,Calls Tryz.prog 48 #[.int .u64 (k:Int)] w (RetB (.string t1) w)))\/(Ab<=0/\∀w,Calls Tryz.prog 48 #[.int .u64 0] w (RetB (.string t1) w)):=by
  by_cases h:0<Ab
  ·obtain⟨k,hk⟩:=Int.eq_ofNat_of_zero_le (Int.le_of_lt h)
   exact .inl ⟨k,hk,by omega,by rw[←hk];exact Ad.out (Int.le_of_lt h),fun w=>by rw[←hk];exact(H1 w).out (Int.le_of_lt h)⟩
  ·exact .inr ⟨by omega,fun w=>(Ag w).out (by omega)⟩
 have hn:(∃k:Nat,Aa=(k:Int)/\0<k/\IntKind.u64.wrap (k:Int)=(k:Int)/\(∀w,Calls Tryz.prog 48 #[.int .u64 (k:Int)] w (RetB (.string t2) w)))\/(Aa<=0/\∀w,Calls Tryz.prog 48 #[.int .u64 0] w (RetB (.string t2) w)):=by
  by_cases h:0<Aa
  ·obtain⟨k,hk⟩:=Int.eq_ofNat_of_zero_le (Int.le_of_lt h)
   exact .inl ⟨k,hk,by omega,by rw[←hk];exact Ae.out (Int.le_of_lt h),fun w=>by rw[←hk];exact(H2 w).out (Int.le_of_lt h)⟩
  ·exact .inr ⟨by omega,fun w=>(Af w).out (by omega)⟩
 clear H1 H2 Ag Af Ad Ae
 clear w0 w1 w2 w3 z1 z2
 rcases hr with⟨k,rfl,hk,Aj,h1⟩ | ⟨hr,h1⟩
 all_goals
  rcases hn with⟨k',rfl,Ai,Ah,h2⟩ | ⟨hn,h2⟩
  all_goals
   (try(have he:=HE.out hr hn;subst he))
   clear HE
   have H1:=fun w=>Hd (h1 w)
   have H2:=fun w=>Hd (h2 w)
   clear h1 h2
   go_enter Tryz.func49,Tryz.ntmps49
   go_wp2_with fail
   refine Go.Confl.wp_region_confl (by simp only[List.map_cons,List.map_nil];rfl) (by kernel_rfl) (by kernel_rfl) ?_
   iterate 20
    first
    | (refine Go.Confl.chain_skip (Go.Confl.unwanted_is rfl rfl) ?_)
    | (first | apply Go.Confl.chain_is _ (Go.Confl.wanted_none rfl) | apply Go.Confl.chain_is _ (Go.Confl.wanted_is rfl rfl)
       ·intro b w hr hb K hK
        simp[Go.Confl.readFacts,Go.Confl.tmpsOf,Go.Confl.writerOf,Go.Confl.Is,Op.operands,Call.operands,List.findIdx?,List.findIdx?.go] at hr
        obtain⟨c0,c1,c2,c3,c4,c5,c6,c7,_⟩:=HV.out _ hb
        simp only at c0 c1 c2 c3 c4 c5 c6 c7
        go_wp2_with(first
         | (go_at_call 48;(with_reducible refine(H1 _).out.mono ?_);rintro e w' ⟨rfl,Ac⟩)
         | (go_at_call 48;(with_reducible refine(H2 _).out.mono ?_);rintro e w' ⟨rfl,Ac⟩)
         | (go_at_call 96;(with_reducible refine(H3 _).out.mono ?_);rintro e w' ⟨rfl,Ac⟩)
         | (go_at_call 96;(with_reducible refine(H4 _).out.mono ?_);rintro e w' ⟨rfl,Ac⟩))
        try(simp only[hr];go_wp2)
        exact hK _ _ rfl (by first | exact Q2 _ _ | assumption))
    simp only[List.nil_append,List.cons_append]
   intro us w hp hb
   simp[Go.Confl.allPosts,Go.Confl.Is] at hp
   simp only[Go.Confl.putsFrom,hp,Act.put,List.setIfInBounds_toArray,List.set_cons_zero,List.set_cons_succ]
   go_wp2
   go_ret
   exact RetB.mk rfl (Aa0 HB.out hb)
end Go.P
namespace Go.ZN
open RowKit VB VS VL VarM
def Aj1(s:ByteArray)(i:Int):Nat×Int×Nat:=if(Aa2 s i).2.2≠0 then(0,0,(Aa2 s i).2.2) else if 4096<(Aa2 s i).1 then(0,0,2) else((Aa2 s i).1,(Aa2 s i).2.1,0)
def As4(s:ByteArray)(i:Int):Zn×Int×Nat:=
 if(Aj1 s i).2.2≠0 then(zn0,0,(Aj1 s i).2.2)
 else if(Aj1 s (Aj1 s i).2.1).2.2≠0 then(zn0,0,(Aj1 s (Aj1 s i).2.1).2.2)
 else if(Ag9 s (Aj1 s (Aj1 s i).2.1).2.1).e≠0 then(zn0,0,(Ag9 s (Aj1 s (Aj1 s i).2.1).2.1).e)
 else if(Ag9 s (Ag9 s (Aj1 s (Aj1 s i).2.1).2.1).i).e≠0 then(zn0,0,(Ag9 s (Ag9 s (Aj1 s (Aj1 s i).2.1).2.1).i).e)
 else(⟨(Aj1 s i).1,(Aj1 s (Aj1 s i).2.1).1,⟨(Ag9 s (Aj1 s (Aj1 s i).2.1).2.1).nul,(Ag9 s (Aj1 s (Aj1 s i).2.1).2.1).n,(Ag9 s (Aj1 s (Aj1 s i).2.1).2.1).s⟩,⟨(Ag9 s (Ag9 s (Aj1 s (Aj1 s i).2.1).2.1).i).nul,(Ag9 s (Ag9 s (Aj1 s (Aj1 s i).2.1).2.1).i).n,(Ag9 s (Ag9 s (Aj1 s (Aj1 s i).2.1).2.1).i).s⟩⟩,(Ag9 s (Ag9 s (Aj1 s (Aj1 s i).2.1).2.1).i).i,0)
def gZv(g:Zn×Int×Nat):Value:=.tuple #[g.1.val,.int .i64 g.2.1,.int .i64 (g.2.2:Int)]
section
variable {s:ByteArray} {i y1 y2 j1 j2:Int} {x1 x2 e1 e2 f1 f2:Nat} {b1 b2:Bool} {n1 n2:Int} {t1 t2:ByteArray}
theorem getZ_1(h1:Aj1 s i=(x1,y1,e1))(h:e1≠0):As4 s i=(zn0,0,e1):=by unfold As4;rw[h1,if_pos h]
theorem getZ_2(h1:Aj1 s i=(x1,y1,0))(h2:Aj1 s y1=(x2,y2,e2))(h:e2≠0):As4 s i=(zn0,0,e2):=by unfold As4;rw[h1,if_neg (fun h=>h rfl),h2,if_pos h]
theorem getZ_3(h1:Aj1 s i=(x1,y1,0))(h2:Aj1 s y1=(x2,y2,0))(h3:Ag9 s y2=⟨b1,n1,t1,j1,f1⟩)(h:f1≠0):As4 s i=(zn0,0,f1):=by unfold As4;rw[h1,if_neg (fun h=>h rfl),h2,if_neg (fun h=>h rfl),h3,if_pos h]
theorem getZ_4(h1:Aj1 s i=(x1,y1,0))(h2:Aj1 s y1=(x2,y2,0))(h3:Ag9 s y2=⟨b1,n1,t1,j1,0⟩)(h4:Ag9 s j1=⟨b2,n2,t2,j2,f2⟩)(h:f2≠0):As4 s i=(zn0,0,f2):=by unfold As4;rw[h1,if_neg (fun h=>h rfl),h2,if_neg (fun h=>h rfl),h3,if_neg (fun h=>h rfl),h4,if_pos h]
theorem Du2(h1:Aj1 s i=(x1,y1,0))(h2:Aj1 s y1=(x2,y2,0))(h3:Ag9 s y2=⟨b1,n1,t1,j1,0⟩)(h4:Ag9 s j1=⟨b2,n2,t2,j2,0⟩):As4 s i=(⟨x1,x2,⟨b1,n1,t1⟩,⟨b2,n2,t2⟩⟩,j2,0):=by unfold As4;rw[h1,if_neg (fun h=>h rfl),h2,if_neg (fun h=>h rfl),h3,if_neg (fun h=>h rfl),h4,if_neg (fun h=>h rfl)]
end
end Go.ZN
namespace Go.P
open RowKit VB VL VS ZN VarM
theorem Bj6{f:FuncId}(H:∀(s:ByteArray)(i:Int)(w:World)(_:s.size<=4611686018427387904),Calls Tryz.prog f #[.string s,.int .i64 i] w (RetB (Ag9 s i).val w)){s:ByteArray}{i j:Int}{b:Bool}{n:Int}{t:ByteArray}{e:Nat}(h:Ag9 s i=⟨b,n,t,j,e⟩)(w:World)(hs:s.size<=4611686018427387904):
   Calls Tryz.prog f #[.string s,.int .i64 i] w (RetB (.tuple #[(.agg #[.bool b,.int .i64 n,.string t]),.int .i64 j,.int .i64 (e:Int)]) w):=by
 have h0:=H s i w hs
 rw[h] at h0
 exact h0
theorem Ao7{s:ByteArray}{i y:Int}{x e:Nat}(h:Aj1 s i=(x,y,e))(w:World)(hs:s.size<=maxLen):Calls Tryz.prog 181 #[.string s,.int .i64 i] w (Ret (.tuple #[.int .i64 (x:Int),.int .i64 y,.int .i64 (e:Int)]) w):=by
 obtain⟨a,b,c,hg⟩:∃a b c,Aa2 s i=(a,b,c):=⟨_,_,_,rfl⟩
 have H:=fun w=>Hd (Al0 s i w hs hg)
 unfold Aj1 at h
 rw[hg] at h
 simp only at h
 clear hg
 by_cases hc:c=0
 ·subst hc
  rw[if_neg (fun h=>h rfl)] at h
  by_cases ha:4096<a
  ·rw[if_pos ha] at h
   obtain⟨rfl,rfl,rfl⟩:0=x/\0=y/\2=e:=by simpa using h
   clear h
   go_enter Tryz.func181,Tryz.ntmps181
   go_wp2_with fail
   (with_reducible refine(H _).out.mono ?_);rintro e w1 ⟨rfl,rfl⟩
   go_wp2
   refine bodyPost_ret (v:=.tuple #[.int .i64 0,.int .i64 0,.int .i64 2]) (by simp[results,Tryz.results181,go_sem]) rfl ?_
   exact Ret.mk rfl
  ·rw[if_neg ha] at h
   obtain⟨rfl,rfl,rfl⟩:a=x/\b=y/\0=e:=by simpa using h
   clear h
   have hw:IntKind.i64.wrap (a:Int)=(a:Int):=IntWalk.i64_in _ ⟨by omega,by omega⟩
   go_enter Tryz.func181,Tryz.ntmps181
   go_wp2_with fail
   (with_reducible refine(H _).out.mono ?_);rintro e w1 ⟨rfl,rfl⟩
   go_wp2
   refine bodyPost_ret (v:=.tuple #[.int .i64 (a:Int),.int .i64 b,.int .i64 0]) (by simp[results,Tryz.results181,go_sem]) rfl ?_
   exact Ret.mk rfl
 ·rw[if_pos hc] at h
  obtain⟨rfl,rfl,rfl⟩:0=x/\0=y/\c=e:=by simpa using h
  clear h
  have e1:((c:Int)!=0)=true:=Ab5 (by omega)
  clear hc
  go_enter Tryz.func181,Tryz.ntmps181
  go_wp2_with fail
  (with_reducible refine(H _).out.mono ?_);rintro e w1 ⟨rfl,rfl⟩
  go_wp2
  refine bodyPost_ret (v:=.tuple #[.int .i64 0,.int .i64 0,.int .i64 (c:Int)]) (by simp[results,Tryz.results181,go_sem]) rfl ?_
  exact Ret.mk rfl
theorem zget_1{s:ByteArray}{i:Int}{x1 e1:Nat}{y1:Int}(W:World)(hs:s.size<=4611686018427387904)(h1:Aj1 s i=(x1,y1,e1))(h:e1≠0):Calls Tryz.prog 146 #[.string s,.int .i64 i] W (RetB (gZv (As4 s i)) W):=by
 have Aa:s.size<=maxLen:=by unfold maxLen;omega
 have Ac:=Hd (VarZ.new W zn0 59)
 have Ab:=Hd (show Below W.heap.size W (W.alloc (.cells #[.int .i64 0,.int .i64 0,.bool false,.int .i64 0,.string ⟨#[]⟩,.bool false,.int .i64 0,.string ⟨#[]⟩] 59)) from by go_grown)
 have H1:=fun w=>Hd (Ao7 h1 w Aa)
 rw[getZ_1 h1 h]
 have en:=Ab5 (a:=(e1:Int)) (b:=0) (by omega)
 clear hs Aa h1 h
 go_enter Tryz.func146,Tryz.ntmps146
 go_wp2_with fail
 (with_reducible refine(H1 _).out.mono ?_);rintro e w1 ⟨rfl,rfl⟩
 go_wp2
 refine bodyPost_ret (v:=(.tuple #[(.agg #[.int .i64 0,.int .i64 0,.bool false,.int .i64 0,.string ⟨#[]⟩,.bool false,.int .i64 0,.string ⟨#[]⟩]),.int .i64 0,.int .i64 (e1:Int)])) (by simp[results,Tryz.results146,go_sem]) rfl ?_
 exact RetB.mk rfl Ab.out
theorem zget_2{s:ByteArray}{i:Int}{x1 x2 e2:Nat}{y1 y2:Int}(W:World)(hs:s.size<=4611686018427387904)(h1:Aj1 s i=(x1,y1,0))(h2:Aj1 s y1=(x2,y2,e2))(h:e2≠0):Calls Tryz.prog 146 #[.string s,.int .i64 i] W (RetB (gZv (As4 s i)) W):=by
 have Aa:s.size<=maxLen:=by unfold maxLen;omega
 have Ac:=Hd (VarZ.new W zn0 59)
 have Ab:=Hd (show Below W.heap.size W (W.alloc (.cells #[.int .i64 0,.int .i64 0,.bool false,.int .i64 0,.string ⟨#[]⟩,.bool false,.int .i64 0,.string ⟨#[]⟩] 59)) from by go_grown)
 have H1:=fun w=>Hd (Ao7 h1 w Aa)
 have H2:=fun w=>Hd (Ao7 h2 w Aa)
 rw[getZ_2 h1 h2 h]
 have en:=Ab5 (a:=(e2:Int)) (b:=0) (by omega)
 clear hs Aa h1 h2 h
 go_enter Tryz.func146,Tryz.ntmps146
 go_wp2_with fail
 (with_reducible refine(H1 _).out.mono ?_);rintro e w1 ⟨rfl,rfl⟩
 go_wp2_with fail
 (with_reducible refine(H2 _).out.mono ?_);rintro e w1 ⟨rfl,rfl⟩
 go_wp2
 refine bodyPost_ret (v:=(.tuple #[(.agg #[.int .i64 0,.int .i64 0,.bool false,.int .i64 0,.string ⟨#[]⟩,.bool false,.int .i64 0,.string ⟨#[]⟩]),.int .i64 0,.int .i64 (e2:Int)])) (by simp[results,Tryz.results146,go_sem]) rfl ?_
 exact RetB.mk rfl Ab.out
theorem zget_3{s:ByteArray}{i:Int}{x1 x2 q1:Nat}{y1 y2 j1 n1:Int}{b1:Bool}{t1:ByteArray}(W:World)(hs:s.size<=4611686018427387904)(h1:Aj1 s i=(x1,y1,0))(h2:Aj1 s y1=(x2,y2,0))(h3:Ag9 s y2=⟨b1,n1,t1,j1,q1⟩)(h:q1≠0):Calls Tryz.prog 146 #[.string s,.int .i64 i] W (RetB (gZv (As4 s i)) W):=by
 have Aa:s.size<=maxLen:=by unfold maxLen;omega
 have Ad:=Hd (VarZ.new W zn0 59)
 have Ae:=Hd (show Below W.heap.size W (W.alloc (.cells #[.int .i64 0,.int .i64 0,.bool false,.int .i64 0,.string ⟨#[]⟩,.bool false,.int .i64 0,.string ⟨#[]⟩] 59)) from by go_grown)
 have H1:=fun w=>Hd (Ao7 h1 w Aa)
 have H2:=fun w=>Hd (Ao7 h2 w Aa)
 have H3:=fun w=>Hd (Bj6 (f:=182) As5 h3 w hs)
 rw[getZ_3 h1 h2 h3 h]
 have en:=Ab5 (a:=(q1:Int)) (b:=0) (by omega)
 clear hs Aa h1 h2 h3 h
 go_enter Tryz.func146,Tryz.ntmps146
 go_wp2_with fail
 (with_reducible refine(H1 _).out.mono ?_);rintro e w1 ⟨rfl,rfl⟩
 go_wp2_with fail
 (with_reducible refine(H2 _).out.mono ?_);rintro e w1 ⟨rfl,rfl⟩
 go_wp2_with fail
 (with_reducible refine(H3 _).out.mono ?_);rintro e w3 ⟨rfl,Ab⟩
 have Ac:=(Ad.out.step Ab).alloc (.cells #[.bool b1,.int .i64 n1,.string t1] 49)
 have Af:=Aa0 (Aa0 Ae.out Ab) ((Q2 w3.heap.size w3).alloc (Q1 _) (.cells #[.bool b1,.int .i64 n1,.string t1] 49))
 clear Ab Ad Ae
 go_upto_region 9 with fail
 generalize w3.alloc (.cells #[.bool b1,.int .i64 n1,.string t1] 49)=X at *
 have hP:=(Ac).put (zn0)
 have Ag:=Hd (An2 (z:=(zn0)) (Af) (Q1 _))
 unfold Ez0 at hP Ag
 have HP:=Hd hP
 obtain⟨g0,g1,g2,g3,g4,g5,g6,g7⟩:=(Ac).frz
 obtain⟨r0,r1,r2,r3,r4,r5,r6,r7,_⟩:=Ac
 clear hP
 clear Af
 go_wp2
 obtain⟨m0,m1,m2,m3,m4,m5,m6,m7,_⟩:=HP.out
 simp only[zn0,vl0] at m0 m1 m2 m3 m4 m5 m6 m7
 refine bodyPost_ret (v:=(.tuple #[(.agg #[.int .i64 0,.int .i64 0,.bool false,.int .i64 0,.string ⟨#[]⟩,.bool false,.int .i64 0,.string ⟨#[]⟩]),.int .i64 0,.int .i64 (q1:Int)])) (by simp[results,Tryz.results146,go_sem,m0,m1,m2,m3,m4,m5,m6,m7]) rfl ?_
 exact RetB.mk rfl Ag.out
theorem zget_4{s:ByteArray}{i:Int}{x1 x2 q2:Nat}{y1 y2 j1 n1 j2 n2:Int}{b1 b2:Bool}{t1 t2:ByteArray}(W:World)(hs:s.size<=4611686018427387904)(h1:Aj1 s i=(x1,y1,0))(h2:Aj1 s y1=(x2,y2,0))(h3:Ag9 s y2=⟨b1,n1,t1,j1,0⟩)(h4:Ag9 s j1=⟨b2,n2,t2,j2,q2⟩)(h:q2≠0):Calls Tryz.prog 146 #[.string s,.int .i64 i] W (RetB (gZv (As4 s i)) W):=by
 have Ac:s.size<=maxLen:=by unfold maxLen;omega
 have Af:=Hd (VarZ.new W zn0 59)
 have Ag:=Hd (show Below W.heap.size W (W.alloc (.cells #[.int .i64 0,.int .i64 0,.bool false,.int .i64 0,.string ⟨#[]⟩,.bool false,.int .i64 0,.string ⟨#[]⟩] 59)) from by go_grown)
 have H1:=fun w=>Hd (Ao7 h1 w Ac)
 have H2:=fun w=>Hd (Ao7 h2 w Ac)
 have H3:=fun w=>Hd (Bj6 (f:=182) As5 h3 w hs)
 have H4:=fun w=>Hd (Bj6 (f:=182) As5 h4 w hs)
 rw[getZ_4 h1 h2 h3 h4 h]
 have en:=Ab5 (a:=(q2:Int)) (b:=0) (by omega)
 clear hs Ac h1 h2 h3 h4 h
 go_enter Tryz.func146,Tryz.ntmps146
 go_wp2_with fail
 (with_reducible refine(H1 _).out.mono ?_);rintro e w1 ⟨rfl,rfl⟩
 go_wp2_with fail
 (with_reducible refine(H2 _).out.mono ?_);rintro e w1 ⟨rfl,rfl⟩
 go_wp2_with fail
 (with_reducible refine(H3 _).out.mono ?_);rintro e w3 ⟨rfl,Ad⟩
 have Ai:=(Af.out.step Ad).alloc (.cells #[.bool b1,.int .i64 n1,.string t1] 49)
 have Ak:=Var3.new w3 (.bool b1) (.int .i64 n1) (.string t1) 49
 have Aa:=Aa0 (Aa0 Ag.out Ad) ((Q2 w3.heap.size w3).alloc (Q1 _) (.cells #[.bool b1,.int .i64 n1,.string t1] 49))
 clear Ad
 go_wp2_with fail
 (with_reducible refine(H4 _).out.mono ?_);rintro e w4 ⟨rfl,Ab⟩
 have Ae:=(Ai.step Ab).alloc (.cells #[.bool b2,.int .i64 n2,.string t2] 49)
 have An:=(Ak.step Ab).step ((Q2 w4.heap.size w4).alloc (Q1 _) (.cells #[.bool b2,.int .i64 n2,.string t2] 49))
 have Al:=Var3.new w4 (.bool b2) (.int .i64 n2) (.string t2) 49
 have Ah:=Aa0 (Aa0 Aa Ab) ((Q2 w4.heap.size w4).alloc (Q1 _) (.cells #[.bool b2,.int .i64 n2,.string t2] 49))
 clear Ai Ak Aa Ab Af Ag
 go_upto_region 12 with fail
 generalize w4.alloc (.cells #[.bool b2,.int .i64 n2,.string t2] 49)=X at *
 clear An Al
 have hP:=(Ae).put (zn0)
 have Aj:=Hd (An2 (z:=(zn0)) (Ah) (Q1 _))
 unfold Ez0 at hP Aj
 have HP:=Hd hP
 obtain⟨g0,g1,g2,g3,g4,g5,g6,g7⟩:=(Ae).frz
 obtain⟨r0,r1,r2,r3,r4,r5,r6,r7,_⟩:=Ae
 clear hP
 clear Ah
 go_wp2
 obtain⟨m0,m1,m2,m3,m4,m5,m6,m7,_⟩:=HP.out
 simp only[zn0,vl0] at m0 m1 m2 m3 m4 m5 m6 m7
 refine bodyPost_ret (v:=(.tuple #[(.agg #[.int .i64 0,.int .i64 0,.bool false,.int .i64 0,.string ⟨#[]⟩,.bool false,.int .i64 0,.string ⟨#[]⟩]),.int .i64 0,.int .i64 (q2:Int)])) (by simp[results,Tryz.results146,go_sem,m0,m1,m2,m3,m4,m5,m6,m7]) rfl ?_
 exact RetB.mk rfl Aj.out
theorem Ew0{s:ByteArray}{i:Int}{x1 x2:Nat}{y1 y2 j1 n1 j2 n2:Int}{b1 b2:Bool}{t1 t2:ByteArray}(W:World)(hs:s.size<=4611686018427387904)(h1:Aj1 s i=(x1,y1,0))(h2:Aj1 s y1=(x2,y2,0))(h3:Ag9 s y2=⟨b1,n1,t1,j1,0⟩)(h4:Ag9 s j1=⟨b2,n2,t2,j2,0⟩):Calls Tryz.prog 146 #[.string s,.int .i64 i] W (RetB (gZv (As4 s i)) W):=by
 have Ac:s.size<=maxLen:=by unfold maxLen;omega
 have Af:=Hd (VarZ.new W zn0 59)
 have Ag:=Hd (show Below W.heap.size W (W.alloc (.cells #[.int .i64 0,.int .i64 0,.bool false,.int .i64 0,.string ⟨#[]⟩,.bool false,.int .i64 0,.string ⟨#[]⟩] 59)) from by go_grown)
 have H1:=fun w=>Hd (Ao7 h1 w Ac)
 have H2:=fun w=>Hd (Ao7 h2 w Ac)
 have H3:=fun w=>Hd (Bj6 (f:=182) As5 h3 w hs)
 have H4:=fun w=>Hd (Bj6 (f:=182) As5 h4 w hs)
 rw[Du2 h1 h2 h3 h4]
 clear hs Ac h1 h2 h3 h4
 go_enter Tryz.func146,Tryz.ntmps146
 go_wp2_with fail
 (with_reducible refine(H1 _).out.mono ?_);rintro e w1 ⟨rfl,rfl⟩
 go_wp2_with fail
 (with_reducible refine(H2 _).out.mono ?_);rintro e w1 ⟨rfl,rfl⟩
 go_wp2_with fail
 (with_reducible refine(H3 _).out.mono ?_);rintro e w3 ⟨rfl,Ad⟩
 have Ai:=(Af.out.step Ad).alloc (.cells #[.bool b1,.int .i64 n1,.string t1] 49)
 have Ak:=Var3.new w3 (.bool b1) (.int .i64 n1) (.string t1) 49
 have Aa:=Aa0 (Aa0 Ag.out Ad) ((Q2 w3.heap.size w3).alloc (Q1 _) (.cells #[.bool b1,.int .i64 n1,.string t1] 49))
 clear Ad
 go_wp2_with fail
 (with_reducible refine(H4 _).out.mono ?_);rintro e w4 ⟨rfl,Ab⟩
 have Ae:=(Ai.step Ab).alloc (.cells #[.bool b2,.int .i64 n2,.string t2] 49)
 have An:=(Ak.step Ab).step ((Q2 w4.heap.size w4).alloc (Q1 _) (.cells #[.bool b2,.int .i64 n2,.string t2] 49))
 have Al:=Var3.new w4 (.bool b2) (.int .i64 n2) (.string t2) 49
 have Ah:=Aa0 (Aa0 Aa Ab) ((Q2 w4.heap.size w4).alloc (Q1 _) (.cells #[.bool b2,.int .i64 n2,.string t2] 49))
 clear Ai Ak Aa Ab Af Ag
 go_upto_region 13 with fail
 generalize w4.alloc (.cells #[.bool b2,.int .i64 n2,.string t2] 49)=X at *
 obtain⟨k0,k1,k2,_,_,_⟩:=An
 obtain⟨l0,l1,l2,_,_,_⟩:=Al
 have hP:=(Ae).put (⟨x1,x2,⟨b1,n1,t1⟩,⟨b2,n2,t2⟩⟩)
 have Aj:=Hd (An2 (z:=(⟨x1,x2,⟨b1,n1,t1⟩,⟨b2,n2,t2⟩⟩)) (Ah) (Q1 _))
 unfold Ez0 at hP Aj
 have HP:=Hd hP
 obtain⟨g0,g1,g2,g3,g4,g5,g6,g7⟩:=(Ae).frz
 obtain⟨r0,r1,r2,r3,r4,r5,r6,r7,_⟩:=Ae
 clear hP
 clear Ah
 go_wp2
 obtain⟨m0,m1,m2,m3,m4,m5,m6,m7,_⟩:=HP.out
 simp only at m0 m1 m2 m3 m4 m5 m6 m7
 refine bodyPost_ret (v:=(.tuple #[(.agg #[.int .i64 (x1:Int),.int .i64 (x2:Int),.bool b1,.int .i64 n1,.string t1,.bool b2,.int .i64 n2,.string t2]),.int .i64 j2,.int .i64 0])) (by simp[results,Tryz.results146,go_sem,m0,m1,m2,m3,m4,m5,m6,m7]) rfl ?_
 exact RetB.mk rfl Aj.out
theorem Ec7(s:ByteArray)(i:Int)(W:World)(hs:s.size<=4611686018427387904):Calls Tryz.prog 146 #[.string s,.int .i64 i] W (RetB (gZv (As4 s i)) W):=by
 obtain⟨x1,y1,e1,h1⟩:∃x y e,Aj1 s i=(x,y,e):=⟨_,_,_,rfl⟩
 by_cases he1:e1=0
 ·subst he1
  obtain⟨x2,y2,e2,h2⟩:∃x y e,Aj1 s y1=(x,y,e):=⟨_,_,_,rfl⟩
  by_cases he2:e2=0
  ·subst he2
   obtain⟨b1,n1,t1,j1,q1,h3⟩:∃b n t j f,Ag9 s y2=⟨b,n,t,j,f⟩:=⟨_,_,_,_,_,rfl⟩
   by_cases he3:q1=0
   ·subst he3
    obtain⟨b2,n2,t2,j2,q2,h4⟩:∃b n t j f,Ag9 s j1=⟨b,n,t,j,f⟩:=⟨_,_,_,_,_,rfl⟩
    by_cases he4:q2=0
    ·subst he4;exact Ew0 W hs h1 h2 h3 h4
    ·exact zget_4 W hs h1 h2 h3 h4 he4
   ·exact zget_3 W hs h1 h2 h3 he3
  ·exact zget_2 W hs h1 h2 he2
 ·exact zget_1 W hs h1 he1
end Go.P
namespace Go.ZN
open RowKit VB VS VL VarM
section
variable {s:ByteArray} {i b:Int} {a c:Nat}
end
end Go.ZN
namespace Go.P
open RowKit VB VL VS ZN VarM
end Go.P
