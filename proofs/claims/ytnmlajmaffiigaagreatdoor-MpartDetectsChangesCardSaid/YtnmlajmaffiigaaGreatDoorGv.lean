/- Numbers of variable length: the plain lists and numbers behind the walks. -/
import Derived.Test.YtnmlajmaffiigaaGreatDoorGa
set_option linter.constructorNameAsVariable false
set_option maxRecDepth 100000
set_option maxHeartbeats 1000000
open Go Go.Proofs Go.Proofs.YtnmlajmaffiigaaGreatDoor Go.P
namespace Go.VarM
open RowKit VB
def Aa4(n:Nat):List UInt8:=
 if n<128 then[UInt8.ofNat n] else UInt8.ofNat (n%128+128)::Aa4 (n/128)
termination_by n
decreasing_by omega
theorem Ao1{n:Nat}(h:n<128):Aa4 n=[UInt8.ofNat n]:=by rw[Aa4];simp[h]
theorem Au7{n:Nat}(h:¬n<128):Aa4 n=UInt8.ofNat (n%128+128)::Aa4 (n/128):=by rw[Aa4];simp[h]
theorem Ah0{n:Nat}:∀k,n<128 ^ k->0<k->(Aa4 n).length<=k:=by
 intro k
 induction k generalizing n with
 | zero=>intro _ h;omega
 | succ k ih=>
   intro h _
   by_cases hn:n<128
   ·rw[Ao1 hn];simp
   ·rw[Au7 hn]
    have hk:0<k:=by
     rcases Nat.eq_zero_or_pos k with h0 | h0
     ·subst h0;simp at h;omega
     ·exact h0
    have:n/128<128 ^ k:=by rw[Nat.div_lt_iff_lt_mul (by omega)];rw[Nat.pow_succ] at h;exact h
    have:=ih this hk
    simp;omega
theorem Aa5{n:Nat}(h:n<18446744073709551616):(Aa4 n).length<=10:=Ah0 10 (by simpa using Nat.lt_of_lt_of_le h (by decide)) (by decide)
theorem Ax8(n:Nat):0<(Aa4 n).length:=by
 by_cases h:n<128
 ·rw[Ao1 h];simp
 ·rw[Au7 h];simp
theorem Fg7{x:Nat}(h:x<256):bits .and .u8 (x:Int) 127=(x:Int)%128:=by
 have:=u8_and_nat x 127 h (by omega)
 rw[nat_mask7] at this;exact this
theorem or128'(x:Nat):bits .or .u8 ((x:Int)%256) 128=(x:Int)%128+128:=by
 have h:=u8_or_nat (x%256) 128 (by omega) (by omega)
 have e:x%256 ||| 128=x%128+128:=by
  apply Nat.eq_of_testBit_eq
  intro i
  have h7:x%128+128=128 ||| x%128:=(nat_join 7 128 (x%128) (by decide) (by omega)).symm▸Nat.add_comm _ _
  rw[h7,Nat.testBit_or,Nat.testBit_or,show(256:Nat)=2 ^ 8 from rfl,show(128:Nat)=2 ^ 7 from rfl,Nat.testBit_mod_two_pow,Nat.testBit_mod_two_pow,Nat.testBit_two_pow]
  by_cases h1:i=7
  ·subst h1;simp
  ·by_cases h2:i<7
   ·simp[h2,show i<8 from by omega,show 7≠i from by omega]
   ·simp[h2,show ¬i<8 from by omega,show 7≠i from by omega]
 rw[e] at h;exact h
theorem Eb6{b:Nat}(h:b<128):bits .and .u8 (b:Int) 128=0:=by
 have:=u8_and_nat b 128 (by omega) (by omega)
 rw[nat_bit 7 b,show b/2 ^ 7=0 from by omega] at this;exact this
theorem Eb7{b:Nat}(h:128<=b)(h':b<256):bits .and .u8 (b:Int) 128=128:=by
 have:=u8_and_nat b 128 (by omega) (by omega)
 rw[nat_bit 7 b,show b/2 ^ 7=1 from by omega] at this;exact this
def Ap9:Nat->List UInt8->Option Nat
 | 0,_=>none
 | _+1,[]=>none
 | f+1,b::r=>if b.toNat<128 then some 1 else(Ap9 f r).map (·+1)
def Af4:List UInt8->Nat
 | []=>0
 | b::r=>b.toNat%128+128*Af4 r
def esL(l:List UInt8):Nat×Nat:=match Ap9 10 l with
 | some n=>(n,0)
 | none=>if l.length<10 then(0,10) else(0,8)
def Bj7(l:List UInt8):Nat×Nat×Nat:=match Ap9 10 l with
 | none=>if l.length<10 then(0,0,10) else(0,0,8)
 | some n=>if n=10/\1<(l.getD (n-1) 0).toNat then(0,0,8) else if 1<n/\(l.getD (n-1) 0).toNat=0 then(0,0,2) else(Af4 (l.take n),n,0)
def Aa2(s:ByteArray)(i:Int):Nat×Int×Nat:=
 if i<0\/(s.size:Int)<i then(0,0,4)
 else if(Bj7 (s.data.toList.drop i.toNat)).2.2=0 then((Bj7 (s.data.toList.drop i.toNat)).1,i+(Bj7 (s.data.toList.drop i.toNat)).2.1,0)
 else(0,0,(Bj7 (s.data.toList.drop i.toNat)).2.2)
theorem Bg8:∀(f:Nat)(l:List UInt8)(k:Nat),k<f->k<l.length->(∀j,j<k->128<=(l.getD j 0).toNat)->(l.getD k 0).toNat<128->Ap9 f l=some (k+1)
 | 0,_,_,h,_,_,_=>by omega
 | f+1,[],k,_,h,_,_=>by simp at h
 | f+1,b::r,k,hf,hl,hall,hk=>by
   unfold Ap9
   cases k with
   | zero=>simp at hk;simp[hk]
   | succ k=>
     have h0:=hall 0 (by omega)
     simp at h0
     rw[if_neg (by omega),Bg8 f r k (by omega) (by simpa using hl) (fun j hj=>by simpa using hall (j+1) (by omega)) (by simpa using hk)]
     rfl
theorem Bn3:∀(f:Nat)(l:List UInt8),(∀j,j<f->j<l.length->128<=(l.getD j 0).toNat)->Ap9 f l=none
 | 0,_,_=>rfl
 | f+1,[],_=>rfl
 | f+1,b::r,hall=>by
   unfold Ap9
   have h0:=hall 0 (by omega) (by simp)
   simp at h0
   rw[if_neg (by omega),Bn3 f r (fun j hj hl=>by simpa using hall (j+1) (by omega) (by simpa using hl))]
   rfl
theorem Ar6:∀(f:Nat)(l:List UInt8)(n:Nat),Ap9 f l=some n->1<=n/\n<=f/\n<=l.length/\(∀j,j<n-1->128<=(l.getD j 0).toNat)/\(l.getD (n-1) 0).toNat<128
 | 0,_,_,h=>by simp[Ap9] at h
 | f+1,[],_,h=>by simp[Ap9] at h
 | f+1,b::r,n,h=>by
   unfold Ap9 at h
   by_cases hb:b.toNat<128
   ·rw[if_pos hb] at h;cases h;simp[hb]
   ·rw[if_neg hb] at h
    obtain⟨m,hm,rfl⟩:=Option.map_eq_some_iff.1 h
    obtain⟨h1,h2,h3,h4,h5⟩:=Ar6 f r m hm
    refine⟨by omega,by omega,by simp;omega,?_,?_⟩
    ·intro j hj
     cases j with
     | zero=>simp;omega
     | succ j=>simpa using h4 j (by omega)
    ·obtain⟨m',rfl⟩:∃m',m=m'+1:=⟨m-1,by omega⟩
     simpa using h5
theorem Cu1{l:List UInt8}{n:Nat}(h:Ap9 10 l=some n):esL l=(n,0):=by unfold esL;rw[h]
theorem Cc1{l:List UInt8}(h:Ap9 10 l=none)(hl:l.length<10):esL l=(0,10):=by unfold esL;rw[h];simp[hl]
theorem Cu2{l:List UInt8}(h:Ap9 10 l=none)(hl:¬l.length<10):esL l=(0,8):=by unfold esL;rw[h];simp[hl]
theorem Bu2:∀(l:List UInt8),Af4 l<128 ^ l.length
 | []=>by simp[Af4]
 | b::r=>by
   have:=Bu2 r
   simp only[Af4,Q6,Nat.pow_succ]
   omega
theorem Aq6:∀(a b:List UInt8),Af4 (a++b)=Af4 a+128 ^ a.length*Af4 b
 | [],b=>by simp[Af4]
 | c::a,b=>by
   simp only[List.cons_append,Af4,Aq6 a b,Q6,Nat.pow_succ]
   rw[Nat.mul_add,←Nat.mul_assoc 128,Nat.mul_comm 128 (128 ^ a.length)]
   omega
theorem Ds3(s:ByteArray)(k:Nat)(hk:k+1<=s.size)(h:Af4 s.data.toList<18446744073709551616):
   Af4 (s.data.toList.drop (k+1))*128+bN s k%128<18446744073709551616/\Af4 (s.data.toList.drop k)=Af4 (s.data.toList.drop (k+1))*128+bN s k%128:=by
 have e:Af4 (s.data.toList.drop k)=Af4 (s.data.toList.drop (k+1))*128+bN s k%128:=by
  have hl:k<s.data.toList.length:=by rw[Aa1];omega
  rw[List.drop_eq_getElem_cons hl]
  simp only[Af4,bN]
  rw[List.getD_eq_getElem?_getD,Q7 hl]
  simp only[Option.getD_some]
  omega
 refine⟨?_,e⟩
 rw[←e]
 refine Nat.lt_of_le_of_lt ?_ h
 have:=Aq6 (s.data.toList.take k) (s.data.toList.drop k)
 rw[List.take_append_drop] at this
 rw[this]
 have hp:1<=128 ^ (s.data.toList.take k).length:=Nat.pow_pos (by decide)
 exact Nat.le_trans (Nat.le_mul_of_pos_left _ hp) (Nat.le_add_left _ _)
theorem Ez4(J b:Nat)(h:J*128+b%128<18446744073709551616):bits .or .u64 ((J:Int)*128) ((b:Int)%128)=(J:Int)*128+(b:Int)%128:=by
 have:=u64_or_nat (J*128) (b%128) (by omega) (by omega)
 rw[nat_join 7 (J*128) (b%128) (by omega) (by omega)] at this
 simpa using this
theorem Ez1(n:Nat):128 ^ n=2 ^ (7*n):=by rw[Nat.pow_mul]
theorem Bj1{l:List UInt8}{n:Nat}(h:Ap9 10 l=some n)(Ab:¬(n=10/\1<(l.getD (n-1) 0).toNat)):Af4 (l.take n)<18446744073709551616:=by
 obtain⟨h1,h2,h3,_,_⟩:=Ar6 10 l n h
 by_cases hn:n=10
 ·subst hn
  have hl:=Aq6 (l.take 9) ((l.take 10).drop 9)
  have e:l.take 9=(l.take 10).take 9:=by rw[List.take_take];rfl
  rw[e,List.take_append_drop] at hl
  have h9:=Bu2 ((l.take 10).take 9)
  have Aa:((l.take 10).take 9).length=9:=by simp;omega
  rw[Aa] at h9 hl
  have hd:(l.take 10).drop 9=[l.getD 9 0]:=by
   rw[List.drop_eq_getElem_cons (by simp;omega),List.drop_eq_nil_of_le (by simp;omega)]
   simp[List.getElem_take,List.getD_eq_getElem?_getD,Q7 (show 9<l.length by omega)]
  rw[hd] at hl
  simp only[Af4] at hl
  have hb:(l.getD 9 0).toNat<=1:=by
   have:¬1<(l.getD (10-1) 0).toNat:=fun h=>Ab ⟨rfl,h⟩
   simpa using this
  rw[hl,show(128:Nat) ^ 9=9223372036854775808 from by decide] at *
  omega
 ·have:=Bu2 (l.take n)
  rw[List.length_take,Nat.min_eq_left h3] at this
  refine Nat.lt_of_lt_of_le this ?_
  rw[Ez1]
  exact Nat.le_trans (Nat.pow_le_pow_right (by decide) (show 7*n<=64 by omega)) (by decide)
def Ai4(a:Int):Int:=if a<0 then -2*a-1 else 2*a
def Ak0(v:Int):Int:=if v%2=1 then -(v/2)-1 else v/2
theorem zag_eq{v:Int}(h1:0<=v)(h2:v<=18446744073709551615):
   bits .xor .i64 (v/2) (wrap64 (-wrap64 (bits .and .u64 v 1)))=Ak0 v:=by
 rw[show v/2=wrap64 (v/2) from by unfold wrap64;omega]
 obtain⟨n,rfl⟩:=Int.eq_ofNat_of_zero_le h1
 have ha:bits .and .u64 (n:Int) 1=(n:Int)%2:=by
  have:=u64_and_nat n 1 (by omega) (by omega)
  rw[nat_mask1] at this;exact this
 rw[ha]
 unfold Ak0
 by_cases h:(n:Int)%2=1
 ·rw[if_pos h,h]
  have e1:wrap64 (-wrap64 1) = -1:=by unfold wrap64;rfl
  have e2:wrap64 ((n:Int)/2)=((n/2:Nat):Int):=by unfold wrap64;omega
  rw[e1,e2]
  show IntKind.i64.wrap ((BitVec.ofInt 64 ((n/2:Nat):Int) ^^^ BitVec.ofInt 64 (-1)).toNat:Int)=_
  rw[show BitVec.ofInt 64 (-1)=BitVec.allOnes 64 from by decide,BitVec.xor_allOnes,BitVec.toNat_not,BitVec.ofInt_natCast,BitVec.toNat_ofNat,IntKind.wrap_i64]
  omega
 ·rw[if_neg h,show(n:Int)%2=0 from by omega]
  have e1:wrap64 (-wrap64 0)=0:=by unfold wrap64;rfl
  have e2:wrap64 ((n:Int)/2)=((n/2:Nat):Int):=by unfold wrap64;omega
  rw[e1,e2]
  show IntKind.i64.wrap ((BitVec.ofInt 64 ((n/2:Nat):Int) ^^^ BitVec.ofInt 64 0).toNat:Int)=_
  rw[show BitVec.ofInt 64 0=0#64 from by decide,BitVec.xor_zero,BitVec.ofInt_natCast,BitVec.toNat_ofNat,IntKind.wrap_i64]
  omega
theorem Bf8(a:Int):Ak0 (Ai4 a)=a:=by unfold Ak0 Ai4;split<;>split<;>omega
theorem Ev9{v:Int}(h:0<=v):Ai4 (Ak0 v)=v:=by unfold Ak0 Ai4;split<;>split<;>omega
theorem Av7{a:Int}(h1:-9223372036854775808<=a)(h2:a<=9223372036854775807):0<=Ai4 a/\Ai4 a<=18446744073709551615:=by unfold Ai4;split<;>omega
theorem Er3{v:Int}(h1:0<=v)(h2:v<=18446744073709551615):-9223372036854775808<=Ak0 v/\Ak0 v<=9223372036854775807:=by unfold Ak0;split<;>omega
theorem Da3:∀(n:Nat),(∀j,j<(Aa4 n).length-1->128<=((Aa4 n).getD j 0).toNat)/\((Aa4 n).getD ((Aa4 n).length-1) 0).toNat<128 /\
   (1<(Aa4 n).length->0<((Aa4 n).getD ((Aa4 n).length-1) 0).toNat)/\Af4 (Aa4 n)=n/\((Aa4 n).getD ((Aa4 n).length-1) 0).toNat*128 ^ ((Aa4 n).length-1)<=n:=by
 intro n
 induction n using Nat.strongRecOn with
 | _ n ih=>
   by_cases h:n<128
   ·rw[Ao1 h]
    have e:(UInt8.ofNat n).toNat=n:=by rw[UInt8.toNat_ofNat',Nat.mod_eq_of_lt (by omega)]
    simp only[List.length_singleton,Nat.sub_self,List.getD_cons_zero,e,Af4,Nat.pow_zero]
    refine⟨fun j hj=>by omega,h,fun h=>by omega,by omega,by omega⟩
   ·rw[Au7 h]
    obtain⟨i1,i2,i3,i4,i5⟩:=ih (n/128) (by omega)
    have hp:=Ax8 (n/128)
    have e:(UInt8.ofNat (n%128+128)).toNat=n%128+128:=by rw[UInt8.toNat_ofNat',Nat.mod_eq_of_lt (by omega)]
    obtain⟨m,hm⟩:∃m,(Aa4 (n/128)).length=m+1:=⟨(Aa4 (n/128)).length-1,by omega⟩
    simp only[Q6,hm,Nat.add_sub_cancel,List.getD_cons_succ]
    simp only[hm,Nat.add_sub_cancel] at i1 i2 i3 i5
    refine⟨?_,i2,?_,?_,?_⟩
    ·intro j hj
     cases j with
     | zero=>simp only[List.getD_cons_zero,e];omega
     | succ j=>simpa using i1 j (by omega)
    ·intro _
     by_cases hm1:1<m+1
     ·exact i3 hm1
     ·have:m=0:=by omega
      subst this
      have Aa:n/128<128:=by
       by_cases h2:n/128<128
       ·exact h2
       ·have:=Au7 h2
        rw[this] at hm;simp only[Q6] at hm
        have:=Ax8 (n/128/128);omega
      rw[Ao1 Aa]
      simp only[List.getD_cons_zero,UInt8.toNat_ofNat']
      rw[Nat.mod_eq_of_lt (by omega)];omega
    ·simp only[Af4,e,i4];omega
    ·rw[Nat.pow_succ,←Nat.mul_assoc];omega
theorem Am2{l r:List UInt8}{j:Nat}(h:j<l.length):(l++r).getD j 0=l.getD j 0:=by
 rw[List.getD_eq_getElem?_getD,List.getD_eq_getElem?_getD,List.getElem?_append_left h]
theorem Ct1{n:Nat}(h:n<18446744073709551616)(Aa:List UInt8):Bj7 (Aa4 n++Aa)=(n,(Aa4 n).length,0):=by
 obtain⟨f1,f2,f3,f4,f5⟩:=Da3 n
 have Ab:=Aa5 h
 have hp:=Ax8 n
 have hs:Ap9 10 (Aa4 n++Aa)=some ((Aa4 n).length-1+1):=Bg8 10 _ _ (by omega) (by rw[Q5];omega)
  (fun j hj=>by rw[Am2 (by omega)];exact f1 j hj) (by rw[Am2 (by omega)];exact f2)
 rw[show(Aa4 n).length-1+1=(Aa4 n).length from by omega] at hs
 unfold Bj7
 rw[hs]
 simp only[Am2 (l:=Aa4 n) (r:=Aa) (j:=(Aa4 n).length-1) (by omega)]
 rw[if_neg,if_neg,List.take_left,f4]
 ·rintro⟨a,b⟩;have:=f3 a;omega
 ·rintro⟨a,b⟩
  rw[a] at f5 b
  rw[show(128:Nat) ^ (10-1)=9223372036854775808 from by decide] at f5
  omega
theorem Bz4:∀(l:List UInt8),0<l.length->(∀j,j<l.length-1->128<=(l.getD j 0).toNat)->(l.getD (l.length-1) 0).toNat<128 ->
   (1<l.length->0<(l.getD (l.length-1) 0).toNat)->Aa4 (Af4 l)=l
 | [],h,_,_,_=>by simp at h
 | [b],_,_,h,_=>by
   simp only[List.length_singleton,Nat.sub_self,List.getD_cons_zero] at h
   simp only[Af4]
   rw[Nat.mul_zero,Nat.add_zero,Nat.mod_eq_of_lt h,Ao1 h,UInt8.ofNat_toNat]
 | b::c::r,_,hall,hlast,hpos=>by
   have ih:=Bz4 (c::r) (by simp) (fun j hj=>by simpa using hall (j+1) (by simp at hj⊢;omega)) (by simpa using hlast)
    (fun h=>by simpa using hpos (by simp))
   have hb:=hall 0 (by simp)
   simp only[List.getD_cons_zero] at hb
   have Ab:1<=Af4 (c::r):=by
    rcases Nat.eq_zero_or_pos (Af4 (c::r)) with h0 | h0
    ·rw[h0,Ao1 (by decide)] at ih
     have e:c::r=[0]:=ih.symm.trans rfl
     rw[e] at hpos
     have:=hpos (by simp)
     simp at this
    ·exact h0
   have Aa:=UInt8.toNat_lt b
   have hj:Af4 (b::c::r)=b.toNat%128+128*Af4 (c::r):=rfl
   rw[hj,Au7 (by omega),show(b.toNat%128+128*Af4 (c::r))/128=Af4 (c::r) from by omega,ih,
    show(b.toNat%128+128*Af4 (c::r))%128+128=b.toNat from by omega,UInt8.ofNat_toNat]
theorem Du9{l:List UInt8}(h:(Bj7 l).2.2=0):1<=(Bj7 l).2.1/\(Bj7 l).2.1<=l.length/\Aa4 (Bj7 l).1=l.take (Bj7 l).2.1/\(Bj7 l).1<18446744073709551616:=by
 rcases hs:Ap9 10 l with _ | n
 ·exfalso
  unfold Bj7 at h;rw[hs] at h
  by_cases h10:l.length<10
  ·simp[h10] at h
  ·simp[h10] at h
 ·obtain⟨h1,h2,h3,h4,h5⟩:=Ar6 10 l n hs
  unfold Bj7 at h⊢
  rw[hs] at h⊢
  simp only at h⊢
  by_cases c1:n=10/\1<(l.getD (n-1) 0).toNat
  ·rw[if_pos c1] at h;simp at h
  ·by_cases c2:1<n/\(l.getD (n-1) 0).toNat=0
   ·rw[if_neg c1,if_pos c2] at h;simp at h
   ·rw[if_neg c1,if_neg c2]
    refine⟨h1,h3,?_,Bj1 hs c1⟩
    have hg:∀j,j<n->(l.take n).getD j 0=l.getD j 0:=fun j hj=>by
     rw[List.getD_eq_getElem?_getD,List.getElem?_take,if_pos hj,←List.getD_eq_getElem?_getD]
    have hl:(l.take n).length=n:=by rw[List.length_take];omega
    refine Bz4 _ (by omega) ?_ ?_ ?_
    ·intro j hj;rw[hl] at hj;rw[hg j (by omega)];exact h4 j hj
    ·rw[hl,hg _ (by omega)];exact h5
    ·intro hn;rw[hl] at hn⊢;rw[hg _ (by omega)];omega
end Go.VarM
namespace Go.P
open RowKit VB VarM
theorem Ac5(n:Nat)(w:World)(h:n<18446744073709551616):
   Calls Tryz.prog 48 #[.int .u64 (n:Int)] w (RetB (.string (str (Aa4 n))) w):=by
 have Ag:=Aa5 h
 have Af:=Ae8 (P:=Tryz.prog) 41 9 5 Tryz.underlying41 Tryz.underlying5 Tryz.underlying9
 go_enter Tryz.func48,Tryz.ntmps48
 go_wp2
 go_loopw[0,3] (fun v s wr=>∃(x:Nat)(Aa:List UInt8),v=.int .u64 x/\x<18446744073709551616/\s=.string (str Aa)/\Aa++Aa4 x=Aa4 n/\Below w.heap.size w wr)
  (fun v _ _=>(intOf v).toNat)
 case atStart=>exact⟨n,[],rfl,h,rfl,rfl,Q2 _ _⟩
 case round=>
  obtain⟨x,Aa,rfl,hx,rfl,Ac,Ab⟩:=hrel
  have Ad:Aa.length<=10:=by have:=congrArg List.length Ac;rw[Q5] at this;omega
  have Ah:=Ab.size
  have Ae:=Ah1 (P:=Tryz.prog) Aa 10 Ad (by omega)
  by_cases hlt:x<128
  ·go_wp2
   go_ret
   refine RetB.mk ?_ (Ab.alloc (by omega) _)
   show Value.string _=_
   rw[←Ac,Ao1 hlt]
  ·have e2:=or128' x
   go_wp2
   go_roundw
   case rel=>
    refine⟨x/128,_,by go_num,by omega,rfl,?_,Ab.alloc (by omega) _⟩
    rw[←Ac,Au7 hlt,List.append_assoc]
    simp
   case measure=>simp[intOf]<;>omega
theorem Cy0(s:ByteArray)(w:World)(hs:s.size<=maxLen):
   Calls Tryz.prog 214 #[.string s] w (Ret (.tuple #[.int .i64 ((esL s.data.toList).1:Nat),.int .i64 ((esL s.data.toList).2:Nat)]) w):=by
 unfold maxLen at hs
 have hb:=Ai1 s
 have hl:=Aa1 s
 have HL:=Hd hl;clear hl
 by_cases h10:s.size<=10
 all_goals
  go_enter Tryz.func214,Tryz.ntmps214
  go_wp2
  go_loop [8] (fun v=>∃(k:Nat),v=.int .i64 k/\k<=10/\k<=s.size/\∀j,j<k->128<=bN s j) (fun v=>10-(intOf v).toNat)
  case atStart=>exact⟨0,rfl,by omega,by omega,fun j hj=>by omega⟩
  case round=>
   obtain⟨k,rfl,hk,Ae,Aa⟩:=hrel
   have HA:=Hd Aa;clear Aa
   by_cases Ac:k<s.size/\k<10
   ·obtain⟨Ac,Ab⟩:=Ac
    have Ad:=Ah2 s k
    by_cases hbk:bN s k<128
    ·have e1:=Eb6 hbk
     go_wp2
     go_ret2
     refine Ret.mk ?_
     have:=Bg8 10 s.data.toList k Ab (by rw[HL.out];exact Ac) HA.out hbk
     rw[Cu1 this]<;>rfl
    ·have e1:=Eb7 (Nat.le_of_not_lt hbk) Ad
     go_wp2
     go_round
     case rel=>
      refine⟨k+1,by go_num,by omega,by omega,fun j hj=>?_⟩
      by_cases hjk:j=k
      ·subst hjk;omega
      ·exact HA.out j (by omega)
     case measure=>simp[intOf]<;>omega
   ·have hn:=Bn3 10 s.data.toList (fun j h1 h2=>HA.out j (by rw[HL.out] at h2;omega))
    have HN:=Hd hn;clear hn
    by_cases hl10:s.size<10
    ·go_wp2
     all_goals
      go_ret2
      refine Ret.mk ?_
      rw[Cc1 HN.out (by rw[HL.out];exact hl10)]<;>rfl
    ·go_wp2
     go_ret2
     refine Ret.mk ?_
     rw[Cu2 HN.out (by rw[HL.out];exact hl10)]<;>rfl
theorem Di0(s:ByteArray)(w:World)(hs:s.size<=10)(hj:Af4 s.data.toList<18446744073709551616):
   Calls Tryz.prog 215 #[.string s] w (Ret (.int .u64 (Af4 s.data.toList:Nat)) w):=by
 have hb:=Ai1 s
 have HL:=Hd (Aa1 s)
 have HJ:=Hd hj;clear hj
 go_enter Tryz.func215,Tryz.ntmps215
 go_wp2
 go_loop [3,4] (fun v i=>∃(k:Nat),k<=s.size/\i=.int .i64 ((k:Int)-1)/\v=.int .u64 (Af4 (s.data.toList.drop k):Nat)) (fun _ i=>(intOf i+1).toNat)
 case atStart=>exact⟨s.size,by omega,rfl,by rw[List.drop_of_length_le (by rw[HL.out];omega)];rfl⟩
 case round=>
  obtain⟨k,hk,rfl,rfl⟩:=hrel
  cases k with
  | zero=>
    go_wp2
    go_ret
    exact Ret.mk (by rfl)
  | succ k=>
    have Ad:=Ah2 s k
    have e1:=Fg7 Ad
    obtain⟨Ac,Aa⟩:=Ds3 s k hk HJ.out
    have Ab:=Hd Aa;clear Aa
    generalize hJ:Af4 (s.data.toList.drop (k+1))=J at Ac Ab⊢
    have Ae:=Hd hJ;clear hJ
    have e2:=Ez4 J (bN s k) Ac
    go_wp2
    go_round
    case rel=>
     refine⟨k,by omega,?_,?_⟩
     ·first | rfl | go_num
     ·rw[Ab.out]
      first | rfl | go_num
    case measure=>simp[intOf]<;>omega
end Go.P
namespace Go.P
open RowKit VB VarM
theorem Cs9{s:ByteArray}{i:Int}(h:i<0\/(s.size:Int)<i):Aa2 s i=(0,0,4):=by unfold Aa2;rw[if_pos h]
theorem Aq7{s:ByteArray}{k:Nat}(h:k<=s.size){r:Nat×Nat×Nat}(hg:Bj7 (s.data.toList.drop k)=r):Aa2 s k=if r.2.2=0 then(r.1,(k:Int)+r.2.1,0) else(0,0,r.2.2):=by
 unfold Aa2
 rw[if_neg (by omega),Int.toNat_natCast,hg]
def Ew5(r:Nat×Int×Nat):Value:=.tuple #[.int .u64 (r.1:Nat),.int .i64 r.2.1,.int .i64 (r.2.2:Nat)]
theorem Br5(s:ByteArray)(i:Int)(w:World)(hs:s.size<=maxLen):
   Calls Tryz.prog 180 #[.string s,.int .i64 i] w (Ret (Ew5 (Aa2 s i)) w):=by
 unfold maxLen at hs
 by_cases hr:i<0\/(s.size:Int)<i
 ·rw[Cs9 hr]
  rcases hr with hr | hr
  ·go_enter Tryz.func180,Tryz.ntmps180
   go_wp2
   go_ret3
   exact Ret.mk rfl
  ·by_cases h0:i<0
   ·omega
   ·go_enter Tryz.func180,Tryz.ntmps180
    go_wp2
    go_ret3
    exact Ret.mk rfl
 ·obtain⟨k,rfl⟩:∃k:Nat,i=k:=⟨i.toNat,by omega⟩
  have hk:k<=s.size:=by omega
  have Ad:(s.data.toList.drop k).length=s.size-k:=by rw[List.length_drop,Aa1]
  have Ac:=Cy0 (s.extract k s.size) w (by rw[Bk1,Aa3,Ad];unfold maxLen;omega)
  rw[Ad3,List.take_of_length_le (by rw[Ad];omega)] at Ac
  have Ak:=Hd Ad;clear Ad
  clear hr
  rcases hsz:Ap9 10 (s.data.toList.drop k) with _ | n
  ·by_cases h10:(s.data.toList.drop k).length<10
   ·rw[Cc1 hsz h10] at Ac
    rw[Aq7 hk (r:=(0,0,10)) (by unfold Bj7;rw[hsz];simp only[h10,if_true])]
    have Af:=Hd Ac;clear Ac hsz h10
    go_enter Tryz.func180,Tryz.ntmps180
    go_wp2_with(go_at_call 214;refine Af.out.mono ?_;rintro e w' ⟨rfl,rfl⟩)
    go_ret3
    exact Ret.mk rfl
   ·rw[Cu2 hsz h10] at Ac
    rw[Aq7 hk (r:=(0,0,8)) (by unfold Bj7;rw[hsz];simp only[h10,if_false])]
    have Af:=Hd Ac;clear Ac hsz h10
    go_enter Tryz.func180,Tryz.ntmps180
    go_wp2_with(go_at_call 214;refine Af.out.mono ?_;rintro e w' ⟨rfl,rfl⟩)
    go_ret3
    exact Ret.mk rfl
  ·rw[Cu1 hsz] at Ac
   obtain⟨Az,Ar,Ap,Al,Ag⟩:=Ar6 10 _ n hsz
   rw[Ak.out] at Ap
   have hb:=Ai1 s
   have Aj:((s.data.toList.drop k).getD (n-1) 0).toNat=bN s (k+n-1):=by
    unfold bN
    rw[List.getD_eq_getElem?_getD,List.getElem?_drop,←List.getD_eq_getElem?_getD,show k+(n-1)=k+n-1 from by omega]
   have Aa:Bj7 (s.data.toList.drop k)=if n=10/\1<bN s (k+n-1) then(0,0,8) else if 1<n/\bN s (k+n-1)=0 then(0,0,2) else(Af4 ((s.data.toList.drop k).take n),n,0):=by
    unfold Bj7;rw[hsz];simp only[Aj]
   rw[Aj] at Ag
   have Ae:=fun h=>Bj1 hsz h
   rw[Aj] at Ae
   generalize hB:bN s (k+n-1)=B at Aa Ag Ae
   have Aq:∀h:k+n-1<s.size,(s[k+n-1]'h).toNat=B:=fun h=>by rw[hb,hB]
   have Af:=Hd Ac;have HJ0:=Hd Ae;clear Ac hsz Al Aj hb hB Ae
   by_cases Ah:n=10/\1<B
   ·rw[Aq7 hk (r:=(0,0,8)) (by rw[Aa,if_pos Ah])]
    obtain⟨hn,Ah⟩:=Ah
    have Ba:10<=n:=by omega
    clear Aa hn
    go_enter Tryz.func180,Tryz.ntmps180
    go_wp2_with(go_at_call 214;refine Af.out.mono ?_;rintro e w' ⟨rfl,rfl⟩)
    go_ret3
    exact Ret.mk rfl
   ·have Ab:n<=9\/(10<=n/\B<=1):=by omega
    by_cases hz:1<n/\B=0
    ·rw[Aq7 hk (r:=(0,0,2)) (by rw[Aa,if_neg Ah,if_pos hz])]
     obtain⟨Ax,Au⟩:=hz
     have Aw:B<=0:=by omega
     clear Aa Ah Au
     rcases Ab with Ab | ⟨Ab,An⟩
     all_goals
      go_enter Tryz.func180,Tryz.ntmps180
      go_wp2_with(go_at_call 214;refine Af.out.mono ?_;rintro e w' ⟨rfl,rfl⟩)
      all_goals(go_ret3;exact Ret.mk rfl)
    ·rw[Aq7 hk (r:=(Af4 ((s.data.toList.drop k).take n),n,0)) (by rw[Aa,if_neg Ah,if_neg hz])]
     have Ai:n<=1\/(2<=n/\1<=B):=by omega
     have Ao:=HJ0.out Ah
     have hj:=Di0 (s.extract k (k+n)) w (by simp;omega) (by rw[Ad3,show k+n-k=n from by omega];exact Ao)
     rw[Ad3,show k+n-k=n from by omega] at hj
     have HJ:=Hd hj
     clear Aa Ah hz hj Ao
     rcases Ab with Ab | ⟨Ab,An⟩
     ·rcases Ai with Ai | ⟨Ai,As⟩
      ·go_enter Tryz.func180,Tryz.ntmps180
       go_wp2_with(first | (go_at_call 214;refine Af.out.mono ?_;rintro e w' ⟨rfl,rfl⟩) | (go_at_call 215;refine HJ.out.mono ?_;rintro e w' ⟨rfl,rfl⟩))
       all_goals(go_ret3;exact Ret.mk rfl)
      ·go_enter Tryz.func180,Tryz.ntmps180
       go_wp2_with(first | (go_at_call 214;refine Af.out.mono ?_;rintro e w' ⟨rfl,rfl⟩) | (go_at_call 215;refine HJ.out.mono ?_;rintro e w' ⟨rfl,rfl⟩))
       all_goals(go_ret3;exact Ret.mk rfl)
     ·have hn:n=10:=by omega
      subst hn
      have Ay:∀h:k+9<s.size,(s[k+9]'h).toNat=B:=Aq
      rcases Ai with Ai | ⟨Ai,As⟩
      ·omega
      ·go_enter Tryz.func180,Tryz.ntmps180
       go_wp2_with(first | (go_at_call 214;refine Af.out.mono ?_;rintro e w' ⟨rfl,rfl⟩) | (go_at_call 215;refine HJ.out.mono ?_;rintro e w' ⟨rfl,rfl⟩))
       all_goals(go_ret3;exact Ret.mk rfl)
end Go.P
namespace Go.VarM
open RowKit VB
end Go.VarM
namespace Go.P
open RowKit VB VarM
theorem Bd3(v:Int)(w:World)(h1:0<=v)(h2:v<=18446744073709551615):
   Calls Tryz.prog 237 #[.int .u64 v] w (Ret (.int .i64 (Ak0 v)) w):=by
 have h:=Hd (zag_eq h1 h2)
 go_enter Tryz.func237,Tryz.ntmps237
 go_wp2
 go_ret
 refine Ret.mk ?_
 rw[←h.out];rfl
theorem Ax1(a:Int)(w:World)(h1:-9223372036854775808<=a)(h2:a<=9223372036854775807):
   Calls Tryz.prog 134 #[.int .i64 a] w (Ret (.int .u64 (Ai4 a)) w):=by
 by_cases h:a<0
 ·have e:Ai4 a = -2*a-1:=by unfold Ai4;rw[if_pos h]
  rw[e]
  go_enter Tryz.func134,Tryz.ntmps134
  go_wp2
  go_ret
  exact Ret.mk (Bg1 (by first | rfl | omega | (simp only[IntKind.wrap_u64,wrap64];omega)))
 ·have e:Ai4 a=2*a:=by unfold Ai4;rw[if_neg h]
  rw[e]
  go_enter Tryz.func134,Tryz.ntmps134
  go_wp2
  go_ret
  exact Ret.mk (Bg1 (by first | rfl | omega | (simp only[IntKind.wrap_u64,wrap64];omega)))
theorem Al0(s:ByteArray)(i:Int)(w:World)(hs:s.size<=maxLen){a:Nat}{b:Int}{c:Nat}(h:Aa2 s i=(a,b,c)):
   Calls Tryz.prog 180 #[.string s,.int .i64 i] w (Ret (.tuple #[.int .u64 (a:Int),.int .i64 b,.int .i64 (c:Int)]) w):=by
 have:=Br5 s i w hs
 rw[h] at this
 exact this
theorem Ae7(s:ByteArray)(i:Int)(w:World)(hs:s.size<=maxLen){a:Nat}{b:Int}(h:Aa2 s i=(a,b,0)):
 Calls Tryz.prog 180 #[.string s,.int .i64 i] w (Ret (.tuple #[.int .u64 (a:Int),.int .i64 b,.int .i64 0]) w):=Al0 s i w hs h
end Go.P
