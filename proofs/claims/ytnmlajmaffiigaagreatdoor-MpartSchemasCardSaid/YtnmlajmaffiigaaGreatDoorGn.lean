/- Texts of one part, joined. -/
import Derived.Test.YtnmlajmaffiigaaGreatDoorGv
import Derived.Test.YtnmlajmaffiigaaGreatDoorGa
import Derived.RegionTactic
import Derived.ChangeAlike
import Derived.StillTailTactics
import Derived.Deep.RegionWith
set_option linter.constructorNameAsVariable false
set_option maxRecDepth 100000
set_option maxHeartbeats 2000000
open Go Go.Proofs Go.Proofs.YtnmlajmaffiigaaGreatDoor Go.P
namespace Go.BP
open RowKit VB
def big(w:Nat):List Nat->Nat
 | []=>0
 | x::l=>x+2 ^ w*big w l
def Aq1(w n N:Nat):List Nat:=(List.range n).map fun i=>N/2 ^ (w*i)%2 ^ w
theorem Aj5(w n N:Nat):(Aq1 w n N).length=n:=by simp[Aq1]
theorem Em1{w n N i:Nat}(h:i<n):(Aq1 w n N)[i]?=some (N/2 ^ (w*i)%2 ^ w):=by simp[Aq1,h]
theorem Cj6(w n N:Nat):∀x∈Aq1 w n N,x<2 ^ w:=by
 intro x hx
 simp only[Aq1,List.mem_map] at hx
 obtain⟨i,_,rfl⟩:=hx
 exact Nat.mod_lt _ (Nat.two_pow_pos w)
theorem Cc2(w n N:Nat):Aq1 w (n+1) N=Aq1 w n N++[N/2 ^ (w*n)%2 ^ w]:=by simp[Aq1,List.range_succ]
theorem Fg3(w x:Nat):big w [x]=x:=by simp[big]
theorem Df6(w:Nat)(a b:List Nat):big w (a++b)=big w a+2 ^ (w*a.length)*big w b:=by
 induction a with
 | nil=>simp[big]
 | cons x a ih=>
   simp only[List.cons_append,big,ih,Q6,Nat.mul_add,Nat.mul_one,Nat.pow_add]
   rw[←Nat.mul_assoc (2 ^ w),Nat.mul_comm (2 ^ w) (2 ^ (w*a.length))]
   omega
theorem Cw7(w:Nat)(a:List Nat)(x:Nat):big w (a++[x])=big w a+x*2 ^ (w*a.length):=by
 rw[Df6,Fg3,Nat.mul_comm]
theorem Ce0{w:Nat}:∀{l:List Nat},(∀x∈l,x<2 ^ w)->big w l<2 ^ (w*l.length)
 | [],_=>by simp[big]
 | x::l,h=>by
   have h1:=h x (List.mem_cons_self ..)
   have h2:=Ce0 (w:=w) (l:=l) (fun y hy=>h y (List.mem_cons_of_mem _ hy))
   have e:2 ^ (w*(l.length+1))=2 ^ w*2 ^ (w*l.length):=by rw[Nat.mul_add,Nat.mul_one,Nat.pow_add,Nat.mul_comm]
   simp only[big,Q6,e]
   have h3:2 ^ w*(big w l+1)<=2 ^ w*2 ^ (w*l.length):=Nat.mul_le_mul_left _ h2
   rw[Nat.mul_add,Nat.mul_one] at h3
   omega
theorem Cd9(w n:Nat):big w (List.replicate n 0)=0:=by
 induction n with
 | zero=>rfl
 | succ n ih=>simp[List.replicate_succ,big,ih]
theorem Cw8(w n N:Nat):big w (Aq1 w n N)=N%2 ^ (w*n):=by
 induction n with
 | zero=>simp[Aq1,big,Nat.mod_one]
 | succ n ih=>
   rw[Cc2,Cw7,ih,Aj5,Nat.mul_add,Nat.mul_one,Nat.pow_add,Nat.mod_mul,Nat.mul_comm (2 ^ (w*n))]
theorem Bl4{w:Nat}:∀{l:List Nat}(_:∀x∈l,x<2 ^ w)(i:Nat),big w l/2 ^ (w*i)%2 ^ w=l.getD i 0
 | [],_,i=>by simp[big]
 | x::l,h,0=>by
   have h1:=h x (List.mem_cons_self ..)
   simp[big,Nat.add_mul_mod_self_left,Nat.mod_eq_of_lt h1]
 | x::l,h,i+1=>by
   have h1:=h x (List.mem_cons_self ..)
   have ih:=Bl4 (w:=w) (l:=l) (fun y hy=>h y (List.mem_cons_of_mem _ hy)) i
   have e:2 ^ (w*(i+1))=2 ^ w*2 ^ (w*i):=by rw[Nat.mul_add,Nat.mul_one,Nat.pow_add,Nat.mul_comm]
   rw[big,e,←Nat.div_div_eq_div_mul,Nat.add_mul_div_left _ _ (Nat.two_pow_pos w),Nat.div_eq_of_lt h1,Nat.zero_add,ih]
   simp
theorem Bv4{w:Nat}{l:List Nat}(h:∀x∈l,x<2 ^ w):Aq1 w l.length (big w l)=l:=by
 apply List.ext_getElem?
 intro i
 by_cases hi:i<l.length
 ·rw[Em1 hi,Bl4 h,List.getD_eq_getElem?_getD,Q7 hi];rfl
 ·rw[List.getElem?_eq_none (by rw[Aj5];omega),List.getElem?_eq_none (by omega)]
theorem Dx5{w n N:Nat}{l:List Nat}(h:∀x∈l,x<2 ^ w)(hn:l.length=n)(hN:big w l=N):l=Aq1 w n N:=by
 subst hn;subst hN;exact(Bv4 h).symm
theorem Cl3{w:Nat}:∀{l:List Nat}{i:Nat}(_:i<l.length)(y:Nat),big w (l.set i (l.getD i 0+y))=big w l+y*2 ^ (w*i)
 | x::l,0,_,y=>by simp[big];omega
 | x::l,i+1,h,y=>by
   have ih:=Cl3 (w:=w) (l:=l) (i:=i) (by simpa using h) y
   have e:2 ^ (w*(i+1))=2 ^ w*2 ^ (w*i):=by rw[Nat.mul_add,Nat.mul_one,Nat.pow_add,Nat.mul_comm]
   simp only[List.set_cons_succ,big,List.getD_cons_succ,ih]
   rw[e,Nat.mul_add,Nat.mul_left_comm y,Nat.add_assoc]
theorem Er8{w:Nat}{l:List Nat}{i y:Nat}(h:∀x∈l,x<2 ^ w)(hy:y<2 ^ w):∀x∈l.set i y,x<2 ^ w:=by
 intro x hx
 rcases List.mem_or_eq_of_mem_set hx with h1 | h1
 ·exact h x h1
 ·subst h1;exact hy
theorem Cm2(w n:Nat):∀x∈List.replicate n 0,x<2 ^ w:=by
 intro x hx
 rw[List.eq_of_mem_replicate hx];exact Nat.two_pow_pos w
theorem Cu6{w:Nat}{l:List Nat}(h:∀x∈l,x<2 ^ w){i r:Nat}(hb:big w l<2 ^ (w*i+r)):l.getD i 0<2 ^ r:=by
 rw[←Bl4 h i]
 refine Nat.lt_of_le_of_lt (Nat.mod_le _ _) ?_
 rw[Nat.div_lt_iff_lt_mul (Nat.two_pow_pos _),←Nat.pow_add,Nat.add_comm]
 exact hb
theorem Ej7(N Aa got:Nat)(r:Nat):N/2 ^ Aa%2 ^ got+N/2 ^ (Aa+got)%2 ^ r*2 ^ got=N/2 ^ Aa%2 ^ (got+r):=by
 rw[Nat.pow_add,Nat.pow_add,Nat.mod_mul,←Nat.div_div_eq_div_mul,Nat.mul_comm (2 ^ got)]
theorem Cw4(N q low:Nat)(h:low<=8):N/2 ^ (8*q)%2 ^ 8/2 ^ low=N/2 ^ (8*q+low)%2 ^ (8-low):=by
 have e:(2:Nat) ^ 8=2 ^ low*2 ^ (8-low):=by rw[←Nat.pow_add,show low+(8-low)=8 from by omega]
 rw[e,Nat.mod_mul_right_div_self,Nat.div_div_eq_div_mul,←Nat.pow_add]
def num(s:ByteArray):Nat:=big 8 (s.data.toList.map (·.toNat))
theorem Bw5(l:List UInt8):∀x∈l.map (·.toNat),x<2 ^ 8:=by
 intro x hx
 simp only[List.mem_map] at hx
 obtain⟨b,_,rfl⟩:=hx
 exact UInt8.toNat_lt b
theorem Be5(s:ByteArray)(q:Nat):num s/2 ^ (8*q)%2 ^ 8=bN s q:=by
 unfold num
 rw[Bl4 (Bw5 _),List.getD_eq_getElem?_getD,List.getElem?_map]
 unfold bN
 rw[List.getD_eq_getElem?_getD]
 cases s.data.toList[q]?<;>rfl
theorem num_lt(s:ByteArray):num s<2 ^ (8*s.size):=by
 have:=Ce0 (Bw5 s.data.toList)
 rwa [List.length_map,Aa1] at this
theorem Df4{l:List Nat}(h:∀x∈l,x<2 ^ 8):(l.map UInt8.ofNat).map (·.toNat)=l:=by
 rw[List.map_map]
 refine(List.map_congr_left fun x hx=>?_).trans (List.map_id l)
 exact Nat.mod_eq_of_lt (h x hx)
theorem Fa8{l:List Nat}(h:∀x∈l,x<2 ^ 8):num (str (l.map UInt8.ofNat))=big 8 l:=by
 unfold num
 rw[Ab7,Df4 h]
theorem Cr2(m N:Nat):num (str ((Aq1 8 m N).map UInt8.ofNat))=N%2 ^ (8*m):=by
 rw[Fa8 (Cj6 8 m N),Cw8]
theorem Cy3{s:ByteArray}{m N:Nat}(hm:s.size=m)(hN:num s=N):s=str ((Aq1 8 m N).map UInt8.ofNat):=by
 subst hN;subst hm
 have e:=Bv4 (Bw5 s.data.toList)
 rw[List.length_map,Aa1] at e
 show s=str ((Aq1 8 s.size (big 8 _)).map UInt8.ofNat)
 rw[e,List.map_map]
 rw[show(UInt8.ofNat ∘ fun x:UInt8=>x.toNat)=id from funext fun x=>by simp,List.map_id]
 rfl
theorem Bz0{s:ByteArray}{Aa:Nat}(h:s.size=(Aa+7)/8):num s<2 ^ Aa↔(Aa%8=0\/bN s (Aa/8)/2 ^ (Aa%8)=0):=by
 have Ab:=num_lt s
 obtain⟨q,r,hq,hr,rfl⟩:∃q r,Aa/8=q/\r<8/\Aa=8*q+r:=⟨Aa/8,Aa%8,rfl,by omega,by omega⟩
 rw[hq,show(8*q+r)%8=r from by omega]
 by_cases hr0:r=0
 ·subst hr0
  rw[h,show(8*q+0+7)/8=q from by omega] at Ab
  simp[Ab]
 ·rw[h,show(8*q+r+7)/8=q+1 from by omega,Nat.mul_add,Nat.pow_add] at Ab
  have hb:=Be5 s q
  rw[Nat.mod_eq_of_lt (by rw[Nat.div_lt_iff_lt_mul (Nat.two_pow_pos _),Nat.mul_comm];exact Ab)] at hb
  rw[←hb,Nat.div_div_eq_div_mul,←Nat.pow_add,Nat.div_eq_zero_iff]
  have:=Nat.two_pow_pos (8*q+r)
  constructor
  ·intro h;exact .inr (.inr h)
  ·rintro(h | h | h)
   ·omega
   ·omega
   ·exact h
def wid(v:Nat):Nat:=if v=0 then 0 else wid (v/2)+1
termination_by v
decreasing_by omega
theorem Av8:wid 0=0:=by rw[wid];simp
theorem Br4{v:Nat}(h:0<v):wid v=wid (v/2)+1:=by rw[wid,if_neg (by omega)]
theorem Bb6:∀(k v:Nat),wid v<=k↔v<2 ^ k
 | 0,v=>by
   by_cases h:v=0
   ·subst h;simp[Av8]
   ·rw[Br4 (by omega)];simp;omega
 | k+1,v=>by
   by_cases h:v=0
   ·subst h;simp[Av8,Nat.two_pow_pos]
   ·have:=Bb6 k (v/2)
    rw[Br4 (by omega),Nat.pow_succ]
    omega
theorem Bb7{v:Nat}(h:v<18446744073709551616):wid v<=64:=(Bb6 64 v).2 (by simpa using h)
def Bt8(n w:Int):Int:=if n<0\/4096<n\/w<0\/64<w then 0 else(n*w+7)/8
theorem An3{n w:Int}(h:n<0\/4096<n\/w<0\/64<w):Bt8 n w=0:=by unfold Bt8;rw[if_pos h]
theorem Ak4{n w:Nat}(hn:n<=4096)(hw:w<=64):Bt8 n w=((n*w+7)/8:Nat):=by
 unfold Bt8;rw[if_neg (by omega)];push_cast;rfl
theorem Dq3{n w:Nat}(hn:n<=4096)(hw:w<=64):(n*w+7)/8<=32768:=by
 have:n*w<=4096*64:=Nat.mul_le_mul hn hw
 omega
def Ac4(l:List Nat)(w:Nat):List UInt8:=(Aq1 8 ((l.length*w+7)/8) (big w l)).map UInt8.ofNat
theorem Ak6(l:List Nat)(w:Nat):(Ac4 l w).length=(l.length*w+7)/8:=by simp[Ac4,Aj5]
def Bh9(l:List Nat)(w:Int):ByteArray×Nat:=
 if w<0\/64<w then(⟨#[]⟩,4) else if 4096<l.length then(⟨#[]⟩,7) else if l.all (fun x=>decide (x<2 ^ w.toNat)) then(str (Ac4 l w.toNat),0) else(⟨#[]⟩,8)
theorem Bh8{l:List Nat}{w:Int}(h:w<0\/64<w):Bh9 l w=(⟨#[]⟩,4):=by unfold Bh9;rw[if_pos h]
theorem Db0{l:List Nat}{w:Nat}(h:w<=64)(hl:4096<l.length):Bh9 l w=(⟨#[]⟩,7):=by unfold Bh9;rw[if_neg (by omega),if_pos hl]
theorem Bt1{l:List Nat}{w:Nat}(h:w<=64)(hl:l.length<=4096)(hx:∀x∈l,x<2 ^ w):Bh9 l w=(str (Ac4 l w),0):=by
 unfold Bh9
 rw[if_neg (by omega),if_neg (by omega),Int.toNat_natCast,if_pos (by simpa using hx)]
theorem Da9{l:List Nat}{w:Nat}(h:w<=64)(hl:l.length<=4096){x:Nat}(hm:x∈l)(hx:¬x<2 ^ w):Bh9 l w=(⟨#[]⟩,8):=by
 unfold Bh9
 rw[if_neg (by omega),if_neg (by omega),Int.toNat_natCast,if_neg (by simp;exact⟨x,hm,by omega⟩)]
def Ad2(s:ByteArray)(n w:Int):List Nat×Nat:=
 if n<0\/4096<n\/w<0\/64<w then([],4) else if(s.size:Int)<Bt8 n w then([],10) else
 if Bt8 n w<s.size\/¬num s<2 ^ (n.toNat*w.toNat) then([],2) else(Aq1 w.toNat n.toNat (num s),0)
theorem Aw2{s:ByteArray}{n w:Int}(h:n<0\/4096<n\/w<0\/64<w):Ad2 s n w=([],4):=by unfold Ad2;rw[if_pos h]
theorem Aw1{s:ByteArray}{n w:Nat}(hn:n<=4096)(hw:w<=64)(h:s.size<(n*w+7)/8):Ad2 s n w=([],10):=by
 unfold Ad2;rw[if_neg (by omega),Ak4 hn hw,if_pos (by omega)]
theorem Bb8{s:ByteArray}{n w:Nat}(hn:n<=4096)(hw:w<=64)(h:(n*w+7)/8<s.size):Ad2 s n w=([],2):=by
 unfold Ad2;rw[if_neg (by omega),Ak4 hn hw,if_neg (by omega),if_pos (by omega)]
theorem Al5{s:ByteArray}{n w:Nat}(hn:n<=4096)(hw:w<=64)(h:s.size=(n*w+7)/8)(hr:¬num s<2 ^ (n*w)):Ad2 s n w=([],2):=by
 unfold Ad2;rw[if_neg (by omega),Ak4 hn hw,if_neg (by omega),if_pos (by simp only[Int.toNat_natCast];exact .inr hr)]
theorem Am8{s:ByteArray}{n w:Nat}(hn:n<=4096)(hw:w<=64)(h:s.size=(n*w+7)/8)(hr:num s<2 ^ (n*w)):Ad2 s n w=(Aq1 w n (num s),0):=by
 unfold Ad2
 rw[if_neg (by omega),Ak4 hn hw,if_neg (by omega),if_neg (by simp only[Int.toNat_natCast];omega)]
 simp
theorem Bn7{l:List Nat}{w:Nat}(h:w<=64)(hl:l.length<=4096)(hx:∀x∈l,x<2 ^ w):Ad2 (str (Ac4 l w)) l.length w=(l,0):=by
 have hb:=Ce0 hx
 have hm:w*l.length<=8*((l.length*w+7)/8):=by rw[Nat.mul_comm];omega
 have Aa:big w l<2 ^ (8*((l.length*w+7)/8)):=Nat.lt_of_lt_of_le hb (Nat.pow_le_pow_right (by decide) hm)
 have hN:num (str (Ac4 l w))=big w l:=by
  unfold Ac4;rw[Cr2,Nat.mod_eq_of_lt Aa]
 rw[Am8 hl h (by rw[Aa3,Ak6]) (by rw[hN,Nat.mul_comm];exact hb),hN,Bv4 hx]
end Go.BP
namespace Go.NU
open RowKit VB BP
def d01(l:List Bool):List Nat:=l.map Bool.toNat
theorem Au9(l:List Bool):(d01 l).length=l.length:=List.length_map _
theorem Dy3(l:List Bool):∀x∈d01 l,x<2 ^ 1:=by
 intro x hx
 simp only[d01,List.mem_map] at hx
 obtain⟨b,_,rfl⟩:=hx
 cases b<;>decide
theorem Dy4{l:List Bool}{j:Nat}{b:Bool}(h:l[j]?=some b):(d01 l).getD j 0=b.toNat:=by
 rw[List.getD_eq_getElem?_getD,d01,List.getElem?_map,h];rfl
def bmp(l:List Bool):ByteArray:=str (Ac4 (d01 l) 1)
theorem Az2(l:List Bool):(bmp l).size=(l.length+7)/8:=by
 rw[bmp,Aa3,Ak6,Au9,Nat.mul_one]
theorem Cl1(l:List Bool):big 1 (d01 l)<2 ^ l.length:=by
 have:=Ce0 (Dy3 l)
 rwa [Au9,Nat.one_mul] at this
theorem Cl0(l:List Bool):num (bmp l)=big 1 (d01 l):=by
 unfold bmp Ac4
 rw[Cr2,Au9]
 exact Nat.mod_eq_of_lt (Nat.lt_of_lt_of_le (Cl1 l) (Nat.pow_le_pow_right (by decide) (by omega)))
def Ep8(N i:Nat):Bool:=decide (N/2 ^ i%2=1)
theorem Ea7{l:List Bool}{i:Nat}{b:Bool}(h:l[i]?=some b):num (bmp l)/2 ^ i%2=b.toNat:=by
 have h1:=Bl4 (Dy3 l) i
 rw[Dy4 h,Nat.one_mul] at h1
 rw[Cl0];exact h1
def Ar4(n N:Nat):List Bool:=(List.range n).map (Ep8 N)
theorem Az1(n N:Nat):(Ar4 n N).length=n:=by simp[Ar4]
theorem Ea3{n N i:Nat}(h:i<n):(Ar4 n N)[i]?=some (Ep8 N i):=by simp[Ar4,h]
theorem Bq3(n N:Nat):Ar4 (n+1) N=Ar4 n N++[Ep8 N n]:=by simp[Ar4,List.range_succ]
theorem Ea4(l:List Bool):Ar4 l.length (num (bmp l))=l:=by
 apply List.ext_getElem?
 intro i
 by_cases hi:i<l.length
 ·have hb:l[i]?=some l[i]:=Q7 hi
  rw[Ea3 hi,hb,Ep8,Ea7 hb]
  cases l[i]<;>rfl
 ·rw[List.getElem?_eq_none (by rw[Az1];omega),List.getElem?_eq_none (by omega)]
theorem Ea2{n j N:Nat}(h:j<n):(Ar4 j N++List.replicate (n-j) false).set j (Ep8 N j)=Ar4 (j+1) N++List.replicate (n-(j+1)) false:=by
 obtain⟨d,rfl⟩:∃d,n=j+1+d:=⟨n-(j+1),by omega⟩
 rw[List.set_append,if_neg (by rw[Az1];omega),Az1,Nat.sub_self,show j+1+d-j=d+1 from by omega,List.replicate_succ,List.set_cons_zero,Bq3,
  show j+1+d-(j+1)=d from by omega,List.append_assoc]
 rfl
def upk(s:ByteArray)(n:Int):List Bool×Nat:=
 if n<0\/4096<n then([],4) else if s.size<(n.toNat+7)/8 then([],10) else
 if(n.toNat+7)/8<s.size\/¬num s<2 ^ n.toNat then([],2) else(Ar4 n.toNat (num s),0)
theorem Bx5{s:ByteArray}{n:Int}(h:n<0\/4096<n):upk s n=([],4):=by unfold upk;rw[if_pos h]
theorem Bx4{s:ByteArray}{n:Nat}(hn:n<=4096)(h:s.size<(n+7)/8):upk s n=([],10):=by
 unfold upk;rw[if_neg (by omega),Int.toNat_natCast,if_pos h]
theorem Cn4{s:ByteArray}{n:Nat}(hn:n<=4096)(h:(n+7)/8<s.size):upk s n=([],2):=by
 unfold upk;rw[if_neg (by omega),Int.toNat_natCast,if_neg (by omega),if_pos (.inl h)]
theorem Cn2{s:ByteArray}{n:Nat}(hn:n<=4096)(h:s.size=(n+7)/8)(hr:¬num s<2 ^ n):upk s n=([],2):=by
 unfold upk;rw[if_neg (by omega),Int.toNat_natCast,if_neg (by omega),if_pos (.inr hr)]
theorem Di3{s:ByteArray}{n:Nat}(hn:n<=4096)(h:s.size=(n+7)/8)(hr:num s<2 ^ n):upk s n=(Ar4 n (num s),0):=by
 unfold upk;rw[if_neg (by omega),Int.toNat_natCast,if_neg (by omega),if_neg (by omega)]
theorem Ew8{l:List Bool}(h:l.length<=4096):upk (bmp l) l.length=(l,0):=by
 rw[Di3 h (Az2 l) (by rw[Cl0];exact Cl1 l),Ea4]
def ones(N:Nat):Nat->Nat
 | 0=>0
 | i+1=>ones N i+N/2 ^ i%2
theorem Ah9(N i:Nat):ones N (i+1)=ones N i+N/2 ^ i%2:=rfl
theorem Bi5(N:Nat):∀i,ones N i<=i
 | 0=>Q1 _
 | i+1=>by
   have:=Bi5 N i
   have:=Nat.mod_lt (N/2 ^ i) (show 0<2 by decide)
   rw[Ah9];omega
theorem Ay0(N a:Nat):∀b,ones N (a+b)=ones N a+ones (N/2 ^ a) b
 | 0=>rfl
 | b+1=>by
   rw[←Nat.add_assoc,Ah9,Ah9,Ay0 N a b,Nat.div_div_eq_div_mul,←Nat.pow_add,Nat.add_assoc]
theorem Cq6(N a:Nat):∀b,b<=a->ones (N%2 ^ a) b=ones N b
 | 0,_=>rfl
 | b+1,h=>by
   have e:N%2 ^ a/2 ^ b%2=N/2 ^ b%2:=by
    obtain⟨d,rfl⟩:∃d,a=b+(d+1):=⟨a-b-1,by omega⟩
    rw[Nat.pow_add,Nat.mod_mul_right_div_self]
    refine Nat.mod_mod_of_dvd _ ?_
    have:(2:Nat) ^ 1 ∣ 2 ^ (d+1):=Nat.pow_dvd_pow 2 (by omega)
    simpa using this
   rw[Ah9,Ah9,Cq6 N a b (by omega),e]
theorem Bi4(i:Nat):ones 0 i=0:=by
 induction i with
 | zero=>rfl
 | succ i ih=>rw[Ah9,ih];simp
theorem Dp1(s:ByteArray)(j:Nat):ones (num s) (8*j)+ones (bN s j) 8=ones (num s) (8*(j+1)):=by
 rw[Nat.mul_add,Nat.mul_one,Ay0,←Be5,Cq6 _ 8 8 (Q1 _)]
theorem Dp0{B:Nat}(h:B<256):ones B 8=B%2+ones (B/2) 8:=by
 have h1:=Ay0 B 1 7
 have h2:=Ah9 (B/2) 7
 have h3:B/2/2 ^ 7=0:=Nat.div_eq_of_lt (by omega)
 have h4:ones B 1=B%2:=by simp[ones]
 rw[h3] at h2
 rw[show 1+7=8 from rfl,h4,Nat.pow_one] at h1
 simp at h2
 omega
end Go.NU
namespace Go.P
open RowKit VB VarM BP
theorem Bb4(n:Nat)(w:World)(h:n<18446744073709551616):
   Calls Tryz.prog 255 #[.int .u64 (n:Int)] w (Ret (.int .i64 (wid n:Nat)) w):=by
 have Ab:=Bb7 h
 go_enter Tryz.func255,Tryz.ntmps255
 go_wp2
 go_loop [0,3] (fun v s=>∃(x k:Nat),v=.int .u64 x/\x<18446744073709551616/\s=.int .i64 k/\k+wid x=wid n)
  (fun v _=>(intOf v).toNat)
 case atStart=>exact⟨n,0,rfl,h,rfl,by omega⟩
 case round=>
  obtain⟨x,k,rfl,hx,rfl,hk⟩:=hrel
  have Ac:k<=64:=by omega
  have HK:=Hd hk;clear hk
  by_cases hz:0<x
  ·have hd:((x:Int)!=0)=true:=by simp;omega
   go_wp2
   go_round
   case rel=>
    refine⟨x/2,k+1,by go_num,by omega,by go_num,?_⟩
    have:=HK.out
    rw[Br4 hz] at this
    omega
   case measure=>simp[intOf]<;>omega
  ·have Aa:x=0:=by omega
   subst Aa
   go_wp2
   go_ret
   refine Ret.mk ?_
   have:=HK.out
   rw[Av8] at this
   rw[←this];rfl
theorem Ar8(n:Nat)(w:World)(h:n<18446744073709551616):
   Calls Tryz.prog 206 #[.int .u64 (n:Int)] w (Ret (.int .i64 (wid n:Nat)) w):=by
 have Ab:=Bb7 h
 go_enter Tryz.func206,Tryz.ntmps206
 go_wp2
 go_loop [0,3] (fun v s=>∃(x k:Nat),v=.int .u64 x/\x<18446744073709551616/\s=.int .i64 k/\k+wid x=wid n)
  (fun v _=>(intOf v).toNat)
 case atStart=>exact⟨n,0,rfl,h,rfl,by omega⟩
 case round=>
  obtain⟨x,k,rfl,hx,rfl,hk⟩:=hrel
  have Ac:k<=64:=by omega
  have HK:=Hd hk;clear hk
  by_cases hz:0<x
  ·go_wp2
   go_round
   case rel=>
    refine⟨x/2,k+1,by go_num,by omega,by go_num,?_⟩
    have:=HK.out
    rw[Br4 hz] at this
    omega
   case measure=>simp[intOf]<;>omega
  ·have Aa:x=0:=by omega
   subst Aa
   go_wp2
   go_ret
   refine Ret.mk ?_
   have:=HK.out
   rw[Av8] at this
   rw[←this];rfl
theorem Ao6(n:Int)(w:World):Calls Tryz.prog 257 #[.int .i64 n] w (Ret (.bool (decide (0<=n/\n<=4096))) w):=by
 by_cases h0:0<=n
 ·go_enter Tryz.func257,Tryz.ntmps257
  go_wp2
  go_ret
  exact Ret.mk (by simp[h0])
 ·go_enter Tryz.func257,Tryz.ntmps257
  go_wp2
  go_ret
  exact Ret.mk (by simp;omega)
theorem Ao5(n:Int)(w:World):Calls Tryz.prog 258 #[.int .i64 n] w (Ret (.bool (decide (0<=n/\n<=64))) w):=by
 by_cases h0:0<=n
 ·go_enter Tryz.func258,Tryz.ntmps258
  go_wp2
  go_ret
  exact Ret.mk (by simp[h0])
 ·go_enter Tryz.func258,Tryz.ntmps258
  go_wp2
  go_ret
  exact Ret.mk (by simp;omega)
theorem or_get{V B low got:Nat}(hV:V<2 ^ got)(hg:got<=63)(hB:B<256):
   bits .or .u64 (V:Int) (IntKind.u64.wrap (IntKind.u64.wrap ((B:Int)/2 ^ low)*2 ^ got))=((V+B/2 ^ low%2 ^ (64-got)*2 ^ got:Nat):Int):=by
 have h1:B/2 ^ low<=B:=Nat.div_le_self _ _
 have e1:((B:Int)/2 ^ low)=((B/2 ^ low:Nat):Int):=by push_cast;rfl
 rw[e1]
 generalize B/2 ^ low=x at *
 have hp:(2:Nat) ^ 64=2 ^ (64-got)*2 ^ got:=by rw[←Nat.pow_add,show 64-got+got=64 from by omega]
 have hx:x%2 ^ (64-got)<2 ^ (64-got):=Nat.mod_lt _ (Nat.two_pow_pos _)
 have Aa:x%2 ^ (64-got)*2 ^ got+V<2 ^ 64:=by
  rw[hp]
  have:(x%2 ^ (64-got)+1)*2 ^ got<=2 ^ (64-got)*2 ^ got:=Nat.mul_le_mul_right _ hx
  rw[Nat.add_mul] at this
  omega
 rw[show(2:Nat) ^ 64=18446744073709551616 from by decide] at Aa hp
 have e2:IntKind.u64.wrap (IntKind.u64.wrap (x:Int)*2 ^ got)=((x%2 ^ (64-got)*2 ^ got:Nat):Int):=by
  rw[IntWalk.u64_in (x:Int) ⟨by omega,by omega⟩,IntKind.wrap_u64]
  have:((x:Int)*2 ^ got)=((x*2 ^ got:Nat):Int):=by push_cast;rfl
  rw[this,show(18446744073709551616:Int)=((18446744073709551616:Nat):Int) from rfl,←Int.natCast_emod,hp,Nat.mul_mod_mul_right]
 rw[e2,u64_or_nat V _ (by omega) (by omega),Nat.or_comm,nat_join got _ V (Nat.mul_mod_left _ _) hV,Nat.add_comm]
theorem Ej8(N Aa got:Nat)(hg:got<=63):N/2 ^ Aa%2 ^ got%2 ^ 64+N/2 ^ (8*((Aa+got)/8))%2 ^ 8/2 ^ ((Aa+got)%8)%2 ^ (64-got)*2 ^ got =
   N/2 ^ Aa%2 ^ (got+(8-(Aa+got)%8))%2 ^ 64:=by
 have Ab:N/2 ^ Aa%2 ^ got<2 ^ got:=Nat.mod_lt _ (Nat.two_pow_pos _)
 have hp:(2:Nat) ^ 64=2 ^ got*2 ^ (64-got):=by rw[←Nat.pow_add,show got+(64-got)=64 from by omega]
 have Ac:(2:Nat) ^ got<=2 ^ 64:=Nat.pow_le_pow_right (by decide) (by omega)
 rw[Cw4 _ _ _ (by omega),show 8*((Aa+got)/8)+(Aa+got)%8=Aa+got from by omega,←Ej7 N Aa got]
 generalize N/2 ^ (Aa+got)%2 ^ (8-(Aa+got)%8)=x
 generalize N/2 ^ Aa%2 ^ got=V at *
 rw[Nat.mod_eq_of_lt (show V<2 ^ 64 from by omega),hp,Nat.mod_mul,Nat.add_mul_mod_self_right,Nat.mod_eq_of_lt Ab,Nat.add_mul_div_right _ _ (Nat.two_pow_pos _),Nat.div_eq_of_lt Ab,Nat.zero_add,Nat.mul_comm]
theorem Ei3(V k:Nat)(hk:k<=64)(hV:V<2 ^ 64):bits .and .u64 (V:Int) (IntKind.u64.wrap (IntKind.u64.wrap (2 ^ k)-1))=((V%2 ^ k:Nat):Int):=by
 rw[show(2:Nat) ^ 64=18446744073709551616 from by decide] at hV
 have hp:=Nat.two_pow_pos k
 have e0:((2:Int) ^ k)=((2 ^ k:Nat):Int):=by push_cast;rfl
 have e:IntKind.u64.wrap (IntKind.u64.wrap (2 ^ k)-1)=((2 ^ k-1:Nat):Int):=by
  rw[e0,IntKind.wrap_u64,IntKind.wrap_u64]
  by_cases h:k=64
  ·subst h;decide
  ·have:2 ^ k<=2 ^ 63:=Nat.pow_le_pow_right (by decide) (by omega)
   rw[show(2:Nat) ^ 63=9223372036854775808 from by decide] at this
   generalize 2 ^ k=p at *
   omega
 have hm:2 ^ k-1<18446744073709551616:=by
  have:2 ^ k<=2 ^ 64:=Nat.pow_le_pow_right (by decide) hk
  rw[show(2:Nat) ^ 64=18446744073709551616 from by decide] at this
  omega
 rw[e,u64_and_nat V _ hV hm,Nat.and_two_pow_sub_one_eq_mod]
theorem Fd3(N a got k:Nat)(h:k<=got)(hk:k<=64):N/2 ^ a%2 ^ got%2 ^ 64%2 ^ k=N/2 ^ a%2 ^ k:=by
 rw[Nat.mod_mod_of_dvd _ (Nat.pow_dvd_pow 2 hk),Nat.mod_mod_of_dvd _ (Nat.pow_dvd_pow 2 h)]
theorem Ci6(s:ByteArray)(Aa k:Nat)(w:World)(hs:s.size<=100000)(hk:k<=64)(Ad:Aa+k<=8*s.size):
   Calls Tryz.prog 261 #[.string s,.int .i64 Aa,.int .i64 k] w (Ret (.int .u64 (num s/2 ^ Aa%2 ^ k:Nat)) w):=by
 have hb:=Ai1 s
 go_enter Tryz.func261,Tryz.ntmps261
 go_wp2
 go_loop [7,8] (fun v g=>∃(got:Nat),g=.int .i64 got/\got<=k+7/\v=.int .u64 (num s/2 ^ Aa%2 ^ got%2 ^ 64:Nat)) (fun _ g=>100-(intOf g).toNat)
 case atStart=>exact⟨0,rfl,by omega,by simp[Nat.mod_one]⟩
 case round=>
  obtain⟨got,rfl,hg,rfl⟩:=hrel
  generalize hV:num s/2 ^ Aa%2 ^ got%2 ^ 64=V
  have HV:=Hd hV;clear hV
  by_cases hlt:got<k
  ·have Ac:=Ah2 s ((Aa+got)/8)
   have Ab:=or_get (V:=V) (B:=bN s ((Aa+got)/8)) (low:=(Aa+got)%8) (got:=got) (by rw[←HV.out];exact Nat.lt_of_le_of_lt (Nat.mod_le _ _) (Nat.mod_lt _ (Nat.two_pow_pos _))) (by omega) Ac
   have HO:=Hd Ab;clear Ab
   have hj:=Ej8 (num s) Aa got (by omega)
   rw[HV.out,Be5] at hj
   have HJ:=Hd hj;clear hj
   go_wp2
   go_round
   case rel=>
    refine⟨got+(8-(Aa+got)%8),by congr 1;omega,by omega,?_⟩
    rw[HO.out,HJ.out]
   case measure=>simp[intOf]<;>omega
  ·go_wp2
   go_ret
   refine Ret.mk (Bg1 (Eq.trans (Ei3 V k hk ?_) ?_))
   ·rw[←HV.out];exact Nat.mod_lt _ (by decide)
   ·rw[←HV.out,Fd3 _ _ _ _ (by omega) hk];push_cast;rfl
theorem By9(s:ByteArray)(Aa:Nat)(w:World)(hu:Aa<=1000000)(hs:s.size=(Aa+7)/8):
   Calls Tryz.prog 260 #[.string s,.int .i64 Aa] w (Ret (.bool (decide (num s<2 ^ Aa))) w):=by
 have hb:=Ai1 s
 have Ac:=Hd (Bz0 hs)
 have Ag:s.size<=125001:=by omega
 have Af:=Ah2 s (Aa/8)
 by_cases h0:Aa%8=0
 ·have hd:((Aa:Int)%8==0)=true:=by simp;omega
  have Ab:=Hd h0;clear h0
  have Ad:=Hd hs;clear hs
  go_enter Tryz.func260,Tryz.ntmps260
  go_wp2
  go_ret
  refine Ret.mk ?_
  show Value.bool _=Value.bool _
  rw[Q4 (Ac.out.2 (.inl Ab.out))]
 ·have hd:((Aa:Int)%8==0)=false:=by simp;omega
  have Ae:Aa/8<s.size:=by omega
  have Ab:=Hd h0;clear h0
  have Ad:=Hd hs;clear hs
  go_enter Tryz.func260,Tryz.ntmps260
  go_wp2
  go_ret
  refine Ret.mk ?_
  show Value.bool _=Value.bool _
  refine congrArg Value.bool ?_
  have e:((bN s (Aa/8):Int)/2 ^ (Aa%8))=((bN s (Aa/8)/2 ^ (Aa%8):Nat):Int):=by push_cast;rfl
  rw[e,Bool.eq_iff_iff,beq_iff_eq,decide_eq_true_iff,Ac.out]
  have:=Ab.out
  omega
theorem Cd8(n k:Int)(w:World):
   Calls Tryz.prog 259 #[.int .i64 n,.int .i64 k] w (Ret (.int .i64 (Bt8 n k)) w):=by
 by_cases hn:0<=n/\n<=4096
 ·have hc:=fun w=>Ao6 n w
  rw[Q4 hn] at hc
  have HC:=fun w=>Hd (hc w);clear hc
  by_cases hk:0<=k/\k<=64
  ·have hc:=fun w=>Ao5 k w
   rw[Q4 hk] at hc
   have HK:=fun w=>Hd (hc w);clear hc
   obtain⟨n,rfl⟩:=Int.eq_ofNat_of_zero_le hn.1
   obtain⟨k,rfl⟩:=Int.eq_ofNat_of_zero_le hk.1
   obtain⟨_,hn⟩:=hn
   obtain⟨_,hk⟩:=hk
   rw[Ak4 (by omega) (by omega)]
   have hm:n*k<=4096*64:=Nat.mul_le_mul (by omega) (by omega)
   have Ab:(n:Int)*(k:Int)<=262144:=by rw[←Int.natCast_mul];omega
   have Aa:0<=(n:Int)*(k:Int):=by rw[←Int.natCast_mul];omega
   go_enter Tryz.func259,Tryz.ntmps259
   go_wp2_with(first
    | (go_at_call 257;refine(HC _).out.mono ?_;rintro e w' ⟨rfl,rfl⟩)
    | (go_at_call 258;refine(HK _).out.mono ?_;rintro e w' ⟨rfl,rfl⟩))
   go_ret
   refine Ret.mk (Bg1 ?_)
   push_cast;omega
  ·have hc:=fun w=>Ao5 k w
   rw[Q3 hk] at hc
   have HK:=fun w=>Hd (hc w);clear hc
   rw[An3 (by omega)]
   go_enter Tryz.func259,Tryz.ntmps259
   go_wp2_with(first
    | (go_at_call 257;refine(HC _).out.mono ?_;rintro e w' ⟨rfl,rfl⟩)
    | (go_at_call 258;refine(HK _).out.mono ?_;rintro e w' ⟨rfl,rfl⟩))
   go_ret
   exact Ret.mk rfl
 ·have hc:=fun w=>Ao6 n w
  rw[Q3 hn] at hc
  have HC:=fun w=>Hd (hc w);clear hc
  rw[An3 (by omega)]
  go_enter Tryz.func259,Tryz.ntmps259
  go_wp2_with(first
   | (go_at_call 257;refine(HC _).out.mono ?_;rintro e w' ⟨rfl,rfl⟩))
  go_ret
  exact Ret.mk rfl
theorem Dm5(n k:Int)(w:World):
   Calls Tryz.prog 234 #[.int .i64 n,.int .i64 k] w (Ret (.int .i64 (Bt8 n k)) w):=by
 by_cases hn1:n<0
 ·rw[An3 (by omega)]
  go_enter Tryz.func234,Tryz.ntmps234
  go_wp2
  go_ret
  exact Ret.mk rfl
 ·by_cases hn2:4096<n
  ·rw[An3 (by omega)]
   go_enter Tryz.func234,Tryz.ntmps234
   go_wp2
   go_ret
   exact Ret.mk rfl
  ·by_cases hk1:k<0
   ·rw[An3 (by omega)]
    go_enter Tryz.func234,Tryz.ntmps234
    go_wp2
    go_ret
    exact Ret.mk rfl
   ·by_cases hk2:64<k
    ·rw[An3 (by omega)]
     go_enter Tryz.func234,Tryz.ntmps234
     go_wp2
     go_ret
     exact Ret.mk rfl
    ·obtain⟨n,rfl⟩:=Int.eq_ofNat_of_zero_le (show 0<=n by omega)
     obtain⟨k,rfl⟩:=Int.eq_ofNat_of_zero_le (show 0<=k by omega)
     rw[Ak4 (by omega) (by omega)]
     have hm:n*k<=4096*64:=Nat.mul_le_mul (by omega) (by omega)
     have Aa:(n:Int)*(k:Int)<=262144:=by rw[←Int.natCast_mul];omega
     have Ab:0<=(n:Int)*(k:Int):=by rw[←Int.natCast_mul];omega
     go_enter Tryz.func234,Tryz.ntmps234
     go_wp2
     go_ret
     exact Ret.mk (Bg1 rfl)
end Go.P
namespace Go.P
open RowKit VB VarM BP
theorem Tryz.infoU64:(Tryz.prog.info? 96).map (fun i=>(i.zero,i.size,i.bytes))=some (some (.int .u64 0),1,8):=by kernel_rfl
theorem Tryz.infoB8:(Tryz.prog.info? 5).map (fun i=>(i.zero,i.size,i.bytes))=some (some (.int .u8 0),1,1):=by kernel_rfl
end Go.P
namespace Go.P
open RowKit VB VarM BP
theorem nvs_u8{bs:List Nat}(h:∀x∈bs,x<2 ^ 8):(bs.map UInt8.ofNat).map bv=nvs .u8 bs:=by
 rw[List.map_map]
 refine List.map_congr_left fun x hx=>?_
 have:=h x hx
 simp only[Function.comp,bv]
 rw[UInt8.toNat_ofNat',Nat.mod_eq_of_lt this]
theorem RowN.ownB{e:TypeId}{w:World}{base g c:Nat}{bs:List Nat}(h:RowN .u8 e w base g c bs)(hb:∀x∈bs,x<2 ^ 8):Fh0 e w base (.slice (some ⟨g,0,none⟩) bs.length c) (bs.map UInt8.ofNat):=by
 unfold Fh0
 rw[nvs_u8 hb,List.length_map];exact h
theorem Dt9{l:List Nat}{j:Nat}(h:j<l.length):l.getD j 0∈l:=by
 rw[List.getD_eq_getElem?_getD,Q7 h];exact List.getElem_mem h
theorem take_snoc{l:List Nat}{j:Nat}(h:j<l.length):l.take (j+1)=l.take j++[l.getD j 0]:=by
 rw[List.take_succ_eq_append_getElem h,List.getD_eq_getElem?_getD,Q7 h];rfl
theorem Cw6{w:Nat}{l:List Nat}{j:Nat}(h:j<l.length):big w (l.take (j+1))=big w (l.take j)+l.getD j 0*2 ^ (w*j):=by
 rw[take_snoc h,Cw7,List.length_take,Nat.min_eq_left (by omega)]
theorem Ew9{w:Nat}{l:List Nat}{j:Nat}(h:j<l.length)(ht:∀x∈l.take j,x<2 ^ w)(hx:l.getD j 0<2 ^ w):∀x∈l.take (j+1),x<2 ^ w:=by
 intro x hm
 rw[take_snoc h,List.mem_append] at hm
 rcases hm with hm | hm
 ·exact ht x hm
 ·rw[List.mem_singleton] at hm;subst hm;exact hx
theorem Bl3{w:Nat}{l:List Nat}{j:Nat}(h:j<=l.length)(ht:∀x∈l.take j,x<2 ^ w):big w (l.take j)<2 ^ (w*j):=by
 have:=Ce0 ht
 rwa [List.length_take,Nat.min_eq_left h] at this
end Go.P
namespace Go.P
open RowKit VB VarM BP
theorem Fg2{V t:Nat}(hV:V<2 ^ 64):bits .and .u64 ((V:Int)/2 ^ t) 1=((V/2 ^ t%2:Nat):Int):=by
 rw[show(2:Nat) ^ 64=18446744073709551616 from by decide] at hV
 have h1:V/2 ^ t<=V:=Nat.div_le_self _ _
 have e:((V:Int)/2 ^ t)=((V/2 ^ t:Nat):Int):=by push_cast;rfl
 rw[e]
 have:=u64_and_nat (V/2 ^ t) 1 (by omega) (by omega)
 rw[Nat.and_one_is_mod] at this
 exact this
theorem Es8{B q:Nat}(hq:q<8)(hB:B<2 ^ q):bits .or .u8 (B:Int) (IntKind.u8.wrap (2 ^ q))=((B+2 ^ q:Nat):Int)/\B+2 ^ q<2 ^ 8:=by
 have hp:2 ^ q+2 ^ q<=2 ^ 8:=by
  have:2 ^ (q+1)<=2 ^ 8:=Nat.pow_le_pow_right (by decide) (by omega)
  rw[Nat.pow_succ] at this;omega
 rw[show(2:Nat) ^ 8=256 from by decide] at hp⊢
 refine⟨?_,by omega⟩
 have e:IntKind.u8.wrap (2 ^ q)=((2 ^ q:Nat):Int):=by
  have e0:((2:Int) ^ q)=((2 ^ q:Nat):Int):=by push_cast;rfl
  have:=Nat.two_pow_pos q
  rw[e0,IntWalk.u8_in _ ⟨by omega,by omega⟩]
 rw[e,u8_or_nat B _ (by omega) (by omega),Nat.or_comm,nat_join q (2 ^ q) B (Nat.mod_self _) hB,Nat.add_comm]
theorem Dm4(vl:Value)(l:List Nat)(k:Int)(B:Nat)(w:World)(hr:RdN .u64 w B vl l)(hB:B<=w.heap.size)(hl:∀x∈l,x<2 ^ 64):
   Calls Tryz.prog 205 #[vl,.int .i64 k] w (RetSE (Bh9 l k).1 (Bh9 l k).2 w):=by
 obtain⟨A,c,rfl,Cg,Bl,Bh⟩:=hr
 have hr:RdN .u64 w B (.slice A l.length c) l:=⟨A,c,rfl,Cg,Bl,Bh⟩
 clear Bh
 unfold maxLen at Bl
 have HR:=Hd hr;clear hr
 by_cases hk0:k<0
 ·rw[Bh8 (by omega)]
  go_enter Tryz.func205,Tryz.ntmps205
  go_wp2
  go_ret2
  exact RetB.mk rfl (Q2 _ _)
 by_cases hk1:64<k
 ·rw[Bh8 (by omega)]
  go_enter Tryz.func205,Tryz.ntmps205
  go_wp2
  go_ret2
  exact RetB.mk rfl (Q2 _ _)
 obtain⟨k,rfl⟩:=Int.eq_ofNat_of_zero_le (show 0<=k by omega)
 have Aa:k<=64:=by omega
 clear hk0 hk1
 by_cases hn:l.length<=4096
 ·have h1:=fun w=>Dm5 (l.length:Nat) (k:Nat) w
  rw[Ak4 hn Aa] at h1
  have HN:=fun w=>Hd (h1 w);clear h1
  have hm:=Dq3 hn Aa
  generalize hM:(l.length*k+7)/8=m at HN hm
  have HM:=Hd hM;clear hM
  have Bt:=Ax2 (P:=Tryz.prog) Tryz.underlying41 Tryz.infoB8 m (by omega) (by unfold maxLen;omega)
  have Ak:=RowN.made .u8 5 w w.heap.size m (Q1 _) (by unfold maxLen;omega)
  have Af:Below w.heap.size w (w.alloc (.cells (madeCells #[.int .u8 0] m) 5)):=(Q2 _ _).alloc (Q1 _) _
  generalize hW:(w.alloc (.cells (madeCells #[.int .u8 0] m) 5))=W1 at Ak Af
  have Aq:=Bt w
  rw[hW] at Aq
  clear Bt hW
  go_enter Tryz.func205,Tryz.ntmps205
  go_wp2_with(first
   | (go_at_call 234;refine(HN _).out.mono ?_;rintro e w' ⟨rfl,rfl⟩))
  clear Aq
  go_loopw[27] (fun i wr=>∃(j:Nat)(bs:List Nat),i=.int .i64 j/\j<=l.length/\(∀x∈l.take j,x<2 ^ k)/\RowN .u8 5 wr w.heap.size w.heap.size m bs/\bs.length=m/\(∀x∈bs,x<2 ^ 8) /\
   big 8 bs=big k (l.take j)/\Below w.heap.size w wr) (fun i _=>l.length-(intOf i).toNat)
  case atStart=>exact⟨0,_,rfl,Nat.zero_le _,by simp,Ak,by simp,Cm2 8 m,by rw[Cd9];rfl,Af⟩
  case round=>
   obtain⟨j,bs,rfl,hj,hx,Bn,Al,Be,Ag,Ac⟩:=hrel
   have HX:=Hd hx;have HL:=Hd Al;have HG:=Hd Ag;clear hx Al Ag
   by_cases hlt:j<l.length
   ·obtain⟨A',c',By,_,_,Ad⟩:=HR.out.below (Ac.mono hB)
    cases By
    obtain⟨ad,rfl,Ci,Cj⟩:=Ad j hlt
    clear Ad
    have Ae:=hl _ (Dt9 hlt)
    have Bi:=Cw6 (w:=k) hlt
    have Bp:=fun h=>Ew9 (w:=k) hlt HX.out h
    have Aj:=Dt9 hlt
    have Ch:=Bl3 hj HX.out
    generalize l.getD j 0=V at *
    have Ce:=Hd Bi;have HTL:=Hd Bp;have HME:=Hd Aj;clear Bi Bp Aj
    have Az:=Bb6 k V
    have hw:=fun w=>Ar8 V w (by simpa using Ae)
    have HW:=fun w=>Hd (hw w);clear hw
    have Cb:=Bb7 (v:=V) (by simpa using Ae)
    by_cases hV:V<2 ^ k
    ·have Cc:=Az.2 hV
     clear Az
     have Ck:j*k<=4096*64:=Nat.mul_le_mul (by omega) Aa
     have Bw:(j:Int)*(k:Int)<=262144:=by rw[←Int.natCast_mul];omega
     have Bx:0<=(j:Int)*(k:Int):=by rw[←Int.natCast_mul];omega
     have Bc:k*(j+1)<=8*m:=by
      have h1:(j+1)*k<=l.length*k:=Nat.mul_le_mul_right _ hlt
      rw[Nat.mul_comm k,←HM.out];omega
     go_wp2_with(go_at_call 206;refine(HW _).out.mono ?_;rintro e w' ⟨rfl,rfl⟩)
     go_loopw[9] (fun q wq=>∃(t:Nat)(cs:List Nat),q=.int .i64 t/\t<=k/\RowN .u8 5 wq w.heap.size w.heap.size m cs/\cs.length=m/\(∀x∈cs,x<2 ^ 8) /\
      big 8 cs=big k (l.take j)+V%2 ^ t*2 ^ (k*j)/\Below w.heap.size w wq) (fun q _=>64-(intOf q).toNat)
     case atStart=>exact⟨0,bs,rfl,Nat.zero_le _,Bn,HL.out,Be,by rw[HG.out];simp[Nat.mod_one],Ac⟩
     case round=>
      obtain⟨t,cs,rfl,ht,Ap,Bm,Ax,Bo,Ab⟩:=hrel
      have Ar:=Hd Bm;have HBC:=Hd Bo;clear Bm Bo
      by_cases htk:t<k
      ·have Aw:=Fg2 (t:=t) Ae
       have Bg:(j*k+t)/8<cs.length:=by
        rw[Ar.out]
        have h1:j*k+t<8*m:=by rw[Nat.mul_add,Nat.mul_one,Nat.mul_comm k] at Bc;omega
        omega
       have Ah:V%2 ^ (t+1)=V%2 ^ t+2 ^ t*(V/2 ^ t%2):=by rw[Nat.pow_succ,Nat.mod_mul]
       have Ay:k*j+t=8*((j*k+t)/8)+(j*k+t)%8:=by rw[Nat.mul_comm k];omega
       have Cd:V%2 ^ t<2 ^ t:=Nat.mod_lt _ (Nat.two_pow_pos _)
       have An:big 8 cs<2 ^ (8*((j*k+t)/8)+(j*k+t)%8):=by
        rw[HBC.out,←Ay,Nat.pow_add,Nat.mul_comm (2 ^ (k*j))]
        have:(V%2 ^ t+1)*2 ^ (k*j)<=2 ^ t*2 ^ (k*j):=Nat.mul_le_mul_right _ Cd
        rw[Nat.add_mul] at this;omega
       have hc:=Ap.cell _ Bg
       have hf:=Ap.frozen ((j*k+t)/8)
       have Bq:=Cu6 Ax An
       obtain⟨Bf,Bb⟩:=Es8 (Nat.mod_lt (j*k+t) (by decide)) Bq
       have As:=Cl3 (w:=8) Bg (2 ^ ((j*k+t)%8))
       have Ai:2 ^ ((j*k+t)%8)*2 ^ (8*((j*k+t)/8))=2 ^ t*2 ^ (k*j):=by
        rw[←Nat.pow_add,←Nat.pow_add,Nat.add_comm t,Ay,Nat.add_comm]
       have Bk:=Ap.store ((j*k+t)/8) (cs.getD ((j*k+t)/8) 0+2 ^ ((j*k+t)%8))
       rw[←Bf] at Bk
       have Bz:(j*k+t)/8<m:=by rw[←Ar.out];exact Bg
       have Bv:((j:Int)*k+t)/8<m:=by rw[←Int.natCast_mul];omega
       generalize cs.getD ((j*k+t)/8) 0=B0 at *
       have Br:=Hd Ah;have HSE:=Hd As;have HPO:=Hd Ai;have HOR:=Hd Bf;have HAT:=Hd Ay
       clear Ah As Ai Bf Ay An Bq
       by_cases hb1:V/2 ^ t%2=1
       ·have hd:(bits .and .u64 ((V:Int)/2 ^ t) 1==1)=true:=by rw[Aw,hb1];rfl
        have Ba:=Hd hb1;clear Aw hb1
        go_wp2
        clear hd
        go_roundw
        case rel=>
         refine⟨t+1,cs.set ((j*k+t)/8) (B0+2 ^ ((j*k+t)%8)),by go_num,htk,Bk,by rw[List.length_set];exact Ar.out,Er8 Ax Bb,?_,Ab.setCell (Q1 _) _⟩
         rw[HSE.out,HBC.out,HPO.out,Br.out,Ba.out,Nat.mul_one,Nat.add_mul,Nat.add_assoc]
        case measure=>simp[intOf]<;>omega
       ·have Af:V/2 ^ t%2=0:=by omega
        have hd:(bits .and .u64 ((V:Int)/2 ^ t) 1==1)=false:=by rw[Aw,Af];rfl
        have Ba:=Hd Af;clear Aw hb1 Af
        go_wp2
        clear hd
        go_roundw
        case rel=>exact⟨t+1,cs,by go_num,htk,Ap,Ar.out,Ax,by rw[HBC.out,Br.out,Ba.out,Nat.mul_zero,Nat.add_zero],Ab⟩
        case measure=>simp[intOf]<;>omega
      ·have Ao:t=k:=by omega
       have Bs:V%2 ^ t=V:=by rw[Ao];exact Nat.mod_eq_of_lt hV
       have Cf:=Hd Bs;clear Ao Bs
       go_wp2
       go_roundw
       case rel=>exact⟨j+1,cs,by go_num,hlt,HTL.out hV,Ap,Ar.out,Ax,by rw[Ce.out,HBC.out,Cf.out],Ab⟩
       case measure=>simp[intOf]<;>omega
    ·have Cc:¬wid V<=k:=fun h=>hV (Az.1 h)
     clear Az
     go_wp2_with(go_at_call 206;refine(HW _).out.mono ?_;rintro e w' ⟨rfl,rfl⟩)
     go_ret2
     refine RetB.mk ?_ Ac
     rw[Da9 Aa hn HME.out hV];rfl
   ·have Bj:j=l.length:=by omega
    have Bd:∀x∈l,x<2 ^ k:=fun x hm=>HX.out x (by rw[Bj,List.take_length];exact hm)
    have Au:bs=Aq1 8 m (big k l):=Dx5 Be HL.out (by rw[HG.out,Bj,List.take_length])
    have Ca:=Hd Au;clear Au
    have Bu:=Ad4 (P:=Tryz.prog) 41 9 5 Tryz.underlying41 Tryz.underlying5 Tryz.underlying9 (RowN.ownB Bn Be)
    rw[HL.out] at Bu
    go_wp2
    go_ret2
    refine RetB.mk ?_ Ac
    rw[Bt1 Aa hn Bd]
    unfold Ac4
    rw[HM.out,←Ca.out];rfl
 ·rw[Db0 Aa (by omega)]
  go_enter Tryz.func205,Tryz.ntmps205
  go_wp2
  go_ret2
  exact RetB.mk rfl (Q2 _ _)
end Go.P
namespace Go.BP
open RowKit VB
theorem Em0{k n j N:Nat}(h:j<n):(Aq1 k j N++List.replicate (n-j) 0).set j (N/2 ^ (k*j)%2 ^ k)=Aq1 k (j+1) N++List.replicate (n-(j+1)) 0:=by
 obtain⟨d,rfl⟩:∃d,n=j+1+d:=⟨n-(j+1),by omega⟩
 rw[List.set_append,if_neg (by rw[Aj5];omega),Aj5,Nat.sub_self,show j+1+d-j=d+1 from by omega,List.replicate_succ,List.set_cons_zero,Cc2,
  show j+1+d-(j+1)=d from by omega,List.append_assoc]
 rfl
theorem Cl2(s:ByteArray)(j:Nat):bN s (j/8)/2 ^ (j%8)%2=num s/2 ^ j%2:=by
 rw[←Be5,Cw4 _ _ _ (by omega),show 8*(j/8)+j%8=j from by omega]
 exact Nat.mod_mod_of_dvd _ (by
  have:(2:Nat) ^ 1 ∣ 2 ^ (8-j%8):=Nat.pow_dvd_pow 2 (by omega)
  simpa using this)
end Go.BP
namespace Go.P
open RowKit VB VarM BP
theorem Dc5(s:ByteArray)(a:Int)(Aa k x:Nat)(w:World)(ha:a=Aa)(hx:num s/2 ^ Aa%2 ^ k=x)(hs:s.size<=100000)(hk:k<=64)(Ab:Aa+k<=8*s.size):
   Calls Tryz.prog 261 #[.string s,.int .i64 a,.int .i64 k] w (Ret (.int .u64 x) w):=by
 subst ha;subst hx;exact Ci6 s Aa k w hs hk Ab
theorem Cg3(s:ByteArray)(u:Int)(Aa:Nat)(b:Bool)(w:World)(Ab:u=Aa)(hb:decide (num s<2 ^ Aa)=b)(hu:Aa<=1000000)(hs:s.size=(Aa+7)/8):
   Calls Tryz.prog 260 #[.string s,.int .i64 u] w (Ret (.bool b) w):=by
 subst Ab;subst hb;exact By9 s Aa w hu hs
theorem Ck5(s:ByteArray)(n k:Int)(w:World):
   Calls Tryz.prog 241 #[.string s,.int .i64 n,.int .i64 k] w (RetNE .u64 96 (Ad2 s n k).1 (Ad2 s n k).2 w):=by
 by_cases hn:0<=n/\n<=4096
 ·have h1:=fun w=>Ao6 n w
  rw[Q4 hn] at h1
  have HC:=fun w=>Hd (h1 w);clear h1
  by_cases hk:0<=k/\k<=64
  ·have h1:=fun w=>Ao5 k w
   rw[Q4 hk] at h1
   have HK:=fun w=>Hd (h1 w);clear h1
   obtain⟨n,rfl⟩:=Int.eq_ofNat_of_zero_le hn.1
   obtain⟨k,rfl⟩:=Int.eq_ofNat_of_zero_le hk.1
   have Ad:n<=4096:=by omega
   have Aa:k<=64:=by omega
   clear hn hk
   have h1:=fun w=>Cd8 (n:Nat) (k:Nat) w
   rw[Ak4 Ad Aa] at h1
   have HN:=fun w=>Hd (h1 w);clear h1
   have hm:=Dq3 Ad Aa
   have Bc:n*k<=4096*64:=Nat.mul_le_mul Ad Aa
   have Ax:(n:Int)*(k:Int)<=262144:=by rw[←Int.natCast_mul];omega
   have Ba:0<=(n:Int)*(k:Int):=by rw[←Int.natCast_mul];omega
   generalize hM:(n*k+7)/8=m at HN hm
   have HM:=Hd hM;clear hM
   by_cases hlo:s.size<m
   ·rw[Aw1 Ad Aa (by rw[HM.out];exact hlo)]
    go_enter Tryz.func241,Tryz.ntmps241
    go_wp2_with(first
     | (go_at_call 257;refine(HC _).out.mono ?_;rintro e w' ⟨rfl,rfl⟩)
     | (go_at_call 258;refine(HK _).out.mono ?_;rintro e w' ⟨rfl,rfl⟩)
     | (go_at_call 259;refine(HN _).out.mono ?_;rintro e w' ⟨rfl,rfl⟩))
    go_ret2
    exact RetNE.mk rfl (OwnN.nil _ _ _ _) (Q2 _ _)
   ·by_cases hhi:m<s.size
    ·rw[Bb8 Ad Aa (by rw[HM.out];exact hhi)]
     go_enter Tryz.func241,Tryz.ntmps241
     go_wp2_with(first
      | (go_at_call 257;refine(HC _).out.mono ?_;rintro e w' ⟨rfl,rfl⟩)
      | (go_at_call 258;refine(HK _).out.mono ?_;rintro e w' ⟨rfl,rfl⟩)
      | (go_at_call 259;refine(HN _).out.mono ?_;rintro e w' ⟨rfl,rfl⟩))
     go_ret2
     exact RetNE.mk rfl (OwnN.nil _ _ _ _) (Q2 _ _)
    ·have Ac:s.size=(n*k+7)/8:=by rw[HM.out];omega
     have Ak:=fun b w=>Cg3 s ((n:Int)*(k:Int)) (n*k) b w (by push_cast;rfl)
     by_cases hr:num s<2 ^ (n*k)
     ·have h1:=fun w=>Ak true w (Q4 hr) (by omega) Ac
      have HZ:=fun w=>Hd (h1 w);clear h1 Ak
      rw[Am8 Ad Aa Ac hr]
      have Aw:=Hd Ac;clear Ac
      have Ar:=Ax2 (P:=Tryz.prog) Tryz.underlying228 Tryz.infoU64 n (by omega) (by unfold maxLen;omega)
      have Ae:=RowN.made .u64 96 w w.heap.size n (Q1 _) (by unfold maxLen;omega)
      have Aq:Below w.heap.size w (w.alloc (.cells (madeCells #[.int .u64 0] n) 96)):=(Q2 _ _).alloc (Q1 _) _
      generalize hW:(w.alloc (.cells (madeCells #[.int .u64 0] n) 96))=W1 at Ae Aq
      have Ah:=Ar w
      rw[hW] at Ah
      clear Ar hW
      go_enter Tryz.func241,Tryz.ntmps241
      go_wp2_with(first
       | (go_at_call 257;refine(HC _).out.mono ?_;rintro e w' ⟨rfl,rfl⟩)
       | (go_at_call 258;refine(HK _).out.mono ?_;rintro e w' ⟨rfl,rfl⟩)
       | (go_at_call 259;refine(HN _).out.mono ?_;rintro e w' ⟨rfl,rfl⟩)
       | (go_at_call 260;refine(HZ _).out.mono ?_;rintro e w' ⟨rfl,rfl⟩))
      clear Ah
      go_loopw[42] (fun i wr=>∃(j:Nat)(ls:List Nat),i=.int .i64 j/\j<=n/\RowN .u64 96 wr w.heap.size w.heap.size n ls/\ls.length=n/\ls=Aq1 k j (num s)++List.replicate (n-j) 0/\Below w.heap.size w wr)
       (fun i _=>n-(intOf i).toNat)
      case atStart=>exact⟨0,_,rfl,Nat.zero_le _,Ae,by simp,by simp[Aq1],Aq⟩
      case round=>
       obtain⟨j,ls,rfl,hj,Aj,Af,Ap,Ag⟩:=hrel
       have HL:=Hd Af;have HLS:=Hd Ap;clear Af Ap
       by_cases hlt:j<n
       ·have Bb:j*k<=4096*64:=Nat.mul_le_mul (by omega) Aa
        have Au:(j:Int)*(k:Int)<=262144:=by rw[←Int.natCast_mul];omega
        have Az:0<=(j:Int)*(k:Int):=by rw[←Int.natCast_mul];omega
        have Al:j*k+k<=8*s.size:=by
         have h1:(j+1)*k<=n*k:=Nat.mul_le_mul_right _ hlt
         rw[Nat.add_mul,Nat.one_mul] at h1
         rw[Aw.out];omega
        have Ab:=Em0 (k:=k) (N:=num s) hlt
        have Ao:=fun w=>Dc5 s ((j:Int)*(k:Int)) (k*j) k (num s/2 ^ (k*j)%2 ^ k) w (by rw[Nat.mul_comm];push_cast;rfl) rfl (by omega) Aa (by rw[Nat.mul_comm k];exact Al)
        generalize num s/2 ^ (k*j)%2 ^ k=x at Ab Ao
        have An:=Hd Ab;have HGB:=fun w=>Hd (Ao w);clear Ab Ao
        have hc:=Aj.cell j (by rw[HL.out];exact hlt)
        have hf:=Aj.frozen j
        have Ay:=Aj.store j x
        go_wp2_with(go_at_call 261;refine(HGB _).out.mono ?_;rintro e w' ⟨rfl,rfl⟩)
        clear hc hf
        go_roundw
        case rel=>exact⟨j+1,_,by go_num,hlt,Ay,by rw[List.length_set];exact HL.out,by rw[HLS.out];exact An.out,Ag.setCell (Q1 _) _⟩
        case measure=>simp[intOf]<;>omega
       ·have As:j=n:=by omega
        have Ai:ls=Aq1 k n (num s):=by rw[HLS.out,As,Nat.sub_self,List.replicate_zero,List.append_nil]
        have HF:=Hd Ai;clear As Ai
        go_wp2
        go_ret2
        exact RetNE.mk rfl (Aj.own_at HL.out HF.out) Ag
     ·have h1:=fun w=>Ak false w (Q3 hr) (by omega) Ac
      have HZ:=fun w=>Hd (h1 w);clear h1 Ak
      rw[Al5 Ad Aa Ac hr]
      clear Ac
      go_enter Tryz.func241,Tryz.ntmps241
      go_wp2_with(first
       | (go_at_call 257;refine(HC _).out.mono ?_;rintro e w' ⟨rfl,rfl⟩)
       | (go_at_call 258;refine(HK _).out.mono ?_;rintro e w' ⟨rfl,rfl⟩)
       | (go_at_call 259;refine(HN _).out.mono ?_;rintro e w' ⟨rfl,rfl⟩)
       | (go_at_call 260;refine(HZ _).out.mono ?_;rintro e w' ⟨rfl,rfl⟩))
      go_ret2
      exact RetNE.mk rfl (OwnN.nil _ _ _ _) (Q2 _ _)
  ·have h1:=fun w=>Ao5 k w
   rw[Q3 hk] at h1
   have HK:=fun w=>Hd (h1 w);clear h1
   rw[Aw2 (by omega)]
   go_enter Tryz.func241,Tryz.ntmps241
   go_wp2_with(first
    | (go_at_call 257;refine(HC _).out.mono ?_;rintro e w' ⟨rfl,rfl⟩)
    | (go_at_call 258;refine(HK _).out.mono ?_;rintro e w' ⟨rfl,rfl⟩))
   go_ret2
   exact RetNE.mk rfl (OwnN.nil _ _ _ _) (Q2 _ _)
 ·have h1:=fun w=>Ao6 n w
  rw[Q3 hn] at h1
  have HC:=fun w=>Hd (h1 w);clear h1
  rw[Aw2 (by omega)]
  go_enter Tryz.func241,Tryz.ntmps241
  go_wp2_with(first
   | (go_at_call 257;refine(HC _).out.mono ?_;rintro e w' ⟨rfl,rfl⟩))
  go_ret2
  exact RetNE.mk rfl (OwnN.nil _ _ _ _) (Q2 _ _)
end Go.P
namespace Go.P
open RowKit VB BP NU
theorem Ev3{b:Nat}(h:b<256):bits .and .u8 (b:Int) 1=((b%2:Nat):Int):=by
 have:=u8_and_nat b 1 h (by decide)
 rw[Nat.and_one_is_mod] at this
 exact this
theorem Ex5(s:ByteArray)(i:Nat):bits .and .u8 ((bN s (i/8):Int)/2 ^ (i%8)) 1=((num s/2 ^ i%2:Nat):Int):=by
 have e:((bN s (i/8):Int)/2 ^ (i%8))=((bN s (i/8)/2 ^ (i%8):Nat):Int):=by push_cast;rfl
 have h:bN s (i/8)/2 ^ (i%8)<256:=Nat.lt_of_le_of_lt (Nat.div_le_self _ _) (Ah2 s (i/8))
 rw[e,Ev3 h,Cl2]
theorem bit_is(N i:Nat):((((N/2 ^ i%2:Nat):Int))==1)=Ep8 N i:=by
 unfold Ep8
 rw[Bool.eq_iff_iff,beq_iff_eq,decide_eq_true_iff]
 omega
theorem Db5(n:Nat)(w:World)(h:n<=1152921504606846976):
   Calls Tryz.prog 202 #[.int .i64 (n:Int)] w (Ret (.int .i64 ((n+7)/8:Nat)) w):=by
 go_enter Tryz.func202,Tryz.ntmps202
 go_wp2
 go_ret
 exact Ret.mk (Bg1 (by omega))
theorem Dq2(b:Nat)(w:World)(h:b<256):
   Calls Tryz.prog 203 #[.int .u8 (b:Int)] w (Ret (.int .i64 (ones b 8:Nat)) w):=by
 have h8:=Bi5 b 8
 generalize hT:ones b 8=T at h8⊢
 have HT:=Hd hT;clear hT
 go_enter Tryz.func203,Tryz.ntmps203
 go_wp2
 go_loop [0,3] (fun a k=>∃x c:Nat,a=.int .u8 x/\k=.int .i64 c/\x<256/\c<=8/\c+ones x 8=T) (fun a _=>(intOf a).toNat)
 case atStart=>exact⟨b,0,rfl,rfl,h,by omega,by rw[HT.out];omega⟩
 case round=>
  obtain⟨x,c,rfl,rfl,hx,hc,Aa⟩:=hrel
  have h1:=Dp0 hx
  have ha:=Ev3 hx
  have h2:x%2<=1:=by omega
  generalize hp:x%2=p at h1 ha h2
  have HP:=Hd hp;clear hp
  have HS:=Hd Aa;have H1:=Hd h1;clear Aa h1
  by_cases hz:x=0
  ·subst hz
   have hd:(((0:Nat):Int)!=0)=false:=rfl
   have HZ:=Hd (Bi4 8)
   clear ha
   go_wp2
   go_ret
   exact Ret.mk (Bg1 (by have:=HS.out;rw[HZ.out] at this;omega))
  ·have hd:((x:Int)!=0)=true:=by simp;omega
   have Ab:c+p<=8:=by have:=HS.out;rw[H1.out] at this;omega
   go_wp2
   go_round
   case rel=>exact⟨x/2,c+p,by go_num,by go_num,by omega,Ab,by have:=HS.out;rw[H1.out] at this;omega⟩
   case measure=>simp[intOf]<;>omega
theorem Dq1(s:ByteArray)(Aa:Nat)(w:World)(hu:Aa<=1000000)(hs:s.size=(Aa+7)/8):
   Calls Tryz.prog 238 #[.string s,.int .i64 Aa] w (Ret (.bool (decide (num s<2 ^ Aa))) w):=by
 have hb:=Ai1 s
 have Ac:=Hd (Bz0 hs)
 have Ag:s.size<=125001:=by omega
 have Af:=Ah2 s (Aa/8)
 by_cases h0:Aa%8=0
 ·have hd:((Aa:Int)%8==0)=true:=by simp;omega
  have Ab:=Hd h0;clear h0
  have Ad:=Hd hs;clear hs
  go_enter Tryz.func238,Tryz.ntmps238
  go_wp2
  go_ret
  refine Ret.mk ?_
  show Value.bool _=Value.bool _
  rw[Q4 (Ac.out.2 (.inl Ab.out))]
 ·have hd:((Aa:Int)%8==0)=false:=by simp;omega
  have Ae:Aa/8<s.size:=by omega
  have Ab:=Hd h0;clear h0
  have Ad:=Hd hs;clear hs
  go_enter Tryz.func238,Tryz.ntmps238
  go_wp2
  go_ret
  refine Ret.mk ?_
  show Value.bool _=Value.bool _
  refine congrArg Value.bool ?_
  have e:((bN s (Aa/8):Int)/2 ^ (Aa%8))=((bN s (Aa/8)/2 ^ (Aa%8):Nat):Int):=by push_cast;rfl
  rw[e,Bool.eq_iff_iff,beq_iff_eq,decide_eq_true_iff,Ac.out]
  have:=Ab.out
  omega
theorem Db4(s:ByteArray)(w:World)(hs:s.size<=140737488351232):
   Calls Tryz.prog 158 #[.string s] w (Ret (.int .i64 (ones (num s) (8*s.size):Nat)) w):=by
 have hb:=Ai1 s
 go_enter Tryz.func158,Tryz.ntmps158
 go_wp2
 go_loop [3,7] (fun k i=>∃j:Nat,k=.int .i64 (ones (num s) (8*j):Nat)/\i=.int .i64 j/\j<=s.size) (fun _ i=>s.size-(intOf i).toNat)
 case atStart=>exact⟨0,rfl,rfl,Nat.zero_le _⟩
 case round=>
  obtain⟨j,rfl,rfl,hj⟩:=hrel
  have Ad:=Bi5 (num s) (8*j)
  have Aa:=Dp1 s j
  have h8:=Bi5 (bN s j) 8
  have hc:=Dq2 (bN s j) w (Ah2 s j)
  generalize hk:ones (num s) (8*j)=k at Ad Aa⊢
  generalize ones (bN s j) 8=q at Aa h8 hc
  have HS:=Hd Aa;have HK:=Hd hk;have HC:=Hd hc;clear Aa hk hc
  by_cases hlt:j<s.size
  ·go_wp2_with(go_at_call 203;refine HC.out.mono ?_;rintro e w' ⟨rfl,rfl⟩)
   go_round
   case rel=>exact⟨j+1,Bg1 (by rw[←HS.out];push_cast;rfl),by go_num,hlt⟩
   case measure=>simp[intOf]<;>omega
  ·have Ac:j=s.size:=by omega
   have Ab:ones (num s) (8*s.size)=k:=by rw[←Ac];exact HK.out
   have Ae:=Hd Ab;clear Ac Ab
   go_wp2
   go_ret
   exact Ret.mk (by rw[Ae.out];rfl)
end Go.P
namespace Go.P
open RowKit VB BP NU
theorem Dj1{l:List Bool}{j:Nat}{b:Bool}(h:l[j]?=some b):big 1 ((d01 l).take (j+1))=big 1 ((d01 l).take j)+b.toNat*2 ^ j:=by
 have hj:j<l.length:=(List.getElem?_eq_some_iff.1 h).1
 rw[Cw6 (by rw[Au9];exact hj),Dy4 h,Nat.one_mul]
theorem Ee4{l:List Bool}{j:Nat}(h:j<=l.length):big 1 ((d01 l).take j)<2 ^ j:=by
 have:=Bl3 (w:=1) (l:=d01 l) (j:=j) (by rw[Au9];exact h) (fun x hx=>Dy3 l x (List.mem_of_mem_take hx))
 rwa [Nat.one_mul] at this
theorem Cz4(vl:Value)(l:List Bool)(B:Nat)(w:World)(hr:RdV Value.bool w B vl l)(hB:B<=w.heap.size)(hl:l.length<=140737488351232):
   Calls Tryz.prog 132 #[vl] w (RetB (.string (bmp l)) w):=by
 obtain⟨A,c,rfl,Bl,Bd,Aw⟩:=hr
 have hr:RdV Value.bool w B (.slice A l.length c) l:=⟨A,c,rfl,Bl,Bd,Aw⟩
 clear Aw
 unfold maxLen at Bd
 have HR:=Hd hr;clear hr
 have hm:(l.length+7)/8<=140737488351232:=by omega
 have Ay:bmp l=str ((Aq1 8 ((l.length+7)/8) (big 1 (d01 l))).map UInt8.ofNat):=by unfold bmp Ac4;rw[Au9,Nat.mul_one]
 have Az:=Hd Ay;clear Ay
 generalize hM:(l.length+7)/8=m at hm Az
 have Bk:((l.length:Int)+7)/8=(m:Int):=by rw[←hM];omega
 have HM:=Hd hM;clear hM
 have Be:=Ax2 (P:=Tryz.prog) Tryz.underlying41 Tryz.infoB8 m (by omega) (by unfold maxLen;omega)
 have Ad:=RowN.made .u8 5 w w.heap.size m (Q1 _) (by unfold maxLen;omega)
 have Bb:Below w.heap.size w (w.alloc (.cells (madeCells #[.int .u8 0] m) 5)):=(Q2 _ _).alloc (Q1 _) _
 generalize hW:(w.alloc (.cells (madeCells #[.int .u8 0] m) 5))=W1 at Ad Bb
 have Ak:=Be w
 rw[hW] at Ak
 clear Be hW
 go_enter Tryz.func132,Tryz.ntmps132
 go_wp2
 clear Ak Bk
 go_loopw[13] (fun i wr=>∃(j:Nat)(bs:List Nat),i=.int .i64 j/\j<=l.length/\RowN .u8 5 wr w.heap.size w.heap.size m bs/\bs.length=m/\(∀x∈bs,x<2 ^ 8) /\
  big 8 bs=big 1 ((d01 l).take j)/\Below w.heap.size w wr) (fun i _=>l.length-(intOf i).toNat)
 case atStart=>exact⟨0,_,rfl,Nat.zero_le _,Ad,by simp,Cm2 8 m,by rw[Cd9];rfl,Bb⟩
 case round=>
  obtain⟨j,bs,rfl,hj,Af,Ae,Ag,Ac,Aa⟩:=hrel
  have HL:=Hd Ae;have HG:=Hd Ac;clear Ae Ac
  by_cases hlt:j<l.length
  ·obtain⟨A',c',Bm,_,_,Ab⟩:=HR.out.below (Aa.mono hB)
   cases Bm
   have Ap:l[j]?=some l[j]:=Q7 hlt
   obtain⟨ad,rfl,Bq,Bp⟩:=Ab j _ Ap
   clear Ab
   have Ao:=Dj1 Ap
   have Al:=Ee4 hj
   generalize l[j]=b at *
   have Bo:=Hd Ap;clear Ap
   cases b with
   | true=>
     have Au:j/8<bs.length:=by have:=HM.out;rw[HL.out];omega
     have Ar:j=8*(j/8)+j%8:=by omega
     have Ah:big 8 bs<2 ^ (8*(j/8)+j%8):=by rw[HG.out,←Ar];exact Al
     have hc:=Af.cell _ Au
     have hf:=Af.frozen (j/8)
     have Ax:=Cu6 Ag Ah
     obtain⟨Aq,As⟩:=Es8 (Nat.mod_lt j (by decide)) Ax
     have Aj:=Cl3 (w:=8) Au (2 ^ (j%8))
     have Ai:2 ^ (j%8)*2 ^ (8*(j/8))=2 ^ j:=by rw[←Nat.pow_add];congr 1;omega
     have Bc:=Af.store (j/8) (bs.getD (j/8) 0+2 ^ (j%8))
     rw[←Aq] at Bc
     have Bi:j/8<m:=by rw[←HL.out];exact Au
     generalize bs.getD (j/8) 0=B0 at *
     have Bf:=Hd Aj;have HPO:=Hd Ai;have HAT:=Hd Ar;have HTS:=Hd Ao;have HO:=Hd Aq
     clear Aj Ai Ar Ao Ah Ax Aq
     go_wp2
     clear hc hf
     go_roundw
     case rel=>
      refine⟨j+1,bs.set (j/8) (B0+2 ^ (j%8)),by go_num,hlt,Bc,by rw[List.length_set];exact HL.out,Er8 Ag As,?_,Aa.setCell (Q1 _) _⟩
      rw[Bf.out,HG.out,HPO.out,HTS.out];simp
     case measure=>simp[intOf]<;>omega
   | false=>
     have Ba:big 8 bs=big 1 ((d01 l).take (j+1)):=by rw[HG.out,Ao];simp
     have Bg:=Hd Ba;clear Ao Al Ba
     go_wp2
     go_roundw
     case rel=>exact⟨j+1,bs,by go_num,hlt,Af,HL.out,Ag,Bg.out,Aa⟩
     case measure=>simp[intOf]<;>omega
  ·have Bj:j=l.length:=by omega
   have An:bs=Aq1 8 m (big 1 (d01 l)):=Dx5 Ag HL.out (by rw[HG.out,Bj,←Au9,List.take_length])
   have Bn:=Hd An;clear An
   have Bh:=Ad4 (P:=Tryz.prog) 41 9 5 Tryz.underlying41 Tryz.underlying5 Tryz.underlying9 (RowN.ownB Af Ag)
   rw[HL.out] at Bh
   go_wp2
   go_ret
   refine RetB.mk ?_ Aa
   rw[Az.out,←Bn.out];rfl
end Go.P
namespace Go.P
open RowKit VB BP NU
theorem Tryz.infB:(Tryz.prog.info? 4).map (fun i=>(i.zero,i.size,i.bytes))=some (some (.bool false),1,1):=by kernel_rfl
theorem Cr6(s:ByteArray)(Aa:Nat)(b:Bool)(w:World)(hu:Aa<=1000000)(hs:s.size=(Aa+7)/8)(hb:decide (num s<2 ^ Aa)=b):
   Calls Tryz.prog 238 #[.string s,.int .i64 Aa] w (Ret (.bool b) w):=by
 subst hb;exact Dq1 s Aa w hu hs
theorem Ch1(s:ByteArray)(n:Int)(w:World)(zs:s.size<=140737488351232):
   Calls Tryz.prog 219 #[.string s,.int .i64 n] w (RetVE Value.bool 4 (upk s n).1 (upk s n).2 w):=by
 by_cases h0:n<0
 ·rw[Bx5 (by omega)]
  go_enter Tryz.func219,Tryz.ntmps219
  go_wp2
  go_ret2
  exact RetVE.mk rfl (OwnV.nil _ _ _ _) (Q2 _ _)
 by_cases h1:4096<n
 ·rw[Bx5 (by omega)]
  have Aw:decide (n<0)=false:=Q3 h0
  have Au:decide (4096<n)=true:=Q4 h1
  go_enter Tryz.func219,Tryz.ntmps219
  go_wp2
  go_ret2
  exact RetVE.mk rfl (OwnV.nil _ _ _ _) (Q2 _ _)
 obtain⟨n,rfl⟩:=Int.eq_ofNat_of_zero_le (show 0<=n by omega)
 have hn:n<=4096:=by omega
 clear h0 h1
 have Ai:=fun w=>Hd (Db5 n w (by omega))
 by_cases hlo:s.size<(n+7)/8
 ·rw[Bx4 hn hlo]
  generalize (n+7)/8=m at *
  go_enter Tryz.func219,Tryz.ntmps219
  go_wp2_with(go_at_call 202;refine(Ai _).out.mono ?_;rintro e w' ⟨rfl,rfl⟩)
  go_ret2
  exact RetVE.mk rfl (OwnV.nil _ _ _ _) (Q2 _ _)
 by_cases hhi:(n+7)/8<s.size
 ·rw[Cn4 hn hhi]
  generalize (n+7)/8=m at *
  go_enter Tryz.func219,Tryz.ntmps219
  go_wp2_with(go_at_call 202;refine(Ai _).out.mono ?_;rintro e w' ⟨rfl,rfl⟩)
  go_ret2
  exact RetVE.mk rfl (OwnV.nil _ _ _ _) (Q2 _ _)
 have Ab:s.size=(n+7)/8:=by omega
 by_cases hr:num s<2 ^ n
 ·have HZ:=fun w=>Hd (Cr6 s n true w (by omega) Ab (Q4 hr))
  rw[Di3 hn Ab hr]
  have hb:=Ai1 s
  have hm:(n+7)/8<=513:=by omega
  generalize hM:(n+7)/8=m at *
  have HM:=Hd hM;have HSZ:=Hd Ab;clear hM Ab
  have Ao:=Am9 (P:=Tryz.prog) (z:=.bool false) rfl Tryz.underlying159 Tryz.infB n (by omega) (by unfold maxLen;omega)
  have Ac:=RowV.made Value.bool false 4 w w.heap.size n (Q1 _) (by unfold maxLen;omega)
  have Al:Below w.heap.size w (w.alloc (.cells (madeCells #[.bool false] n) 4)):=(Q2 _ _).alloc (Q1 _) _
  generalize hW:(w.alloc (.cells (madeCells #[.bool false] n) 4))=W1 at Ac Al
  have Af:=Ao w
  rw[hW] at Af
  clear Ao hW hr
  go_enter Tryz.func219,Tryz.ntmps219
  go_wp2_with(first
   | (go_at_call 202;refine(Ai _).out.mono ?_;rintro e w' ⟨rfl,rfl⟩)
   | (go_at_call 238;refine(HZ _).out.mono ?_;rintro e w' ⟨rfl,rfl⟩))
  clear Af
  go_loopw[35] (fun i wr=>∃(j:Nat)(ls:List Bool),i=.int .i64 j/\j<=n/\RowV Value.bool 4 wr w.heap.size w.heap.size n ls/\ls.length=n/\ls=Ar4 j (num s)++List.replicate (n-j) false/\Below w.heap.size w wr)
   (fun i _=>n-(intOf i).toNat)
  case atStart=>exact⟨0,_,rfl,Nat.zero_le _,Ac,by simp,by simp[Ar4],Al⟩
  case round=>
   obtain⟨j,ls,rfl,hj,Ah,Ad,Ak,Ae⟩:=hrel
   have HL:=Hd Ad;have HLS:=Hd Ak;clear Ad Ak
   by_cases hlt:j<n
   ·have Aa:=Ea2 (N:=num s) hlt
    have Ar:=Ex5 s j
    have An:=bit_is (num s) j
    have Ay:=Ah2 s (j/8)
    have Ax:j/8<s.size:=by rw[HSZ.out,←HM.out];omega
    generalize num s/2 ^ j%2=x at Ar An
    generalize Ep8 (num s) j=t at Aa An
    have Aj:=Hd Aa;clear Aa
    have Aq:ls[j]?=some (ls[j]'(by rw[HL.out];exact hlt)):=Q7 _
    have hc:=Ah.cell j _ Aq
    have hf:=Ah.frozen j
    have As:=Ah.store j t
    clear Aq
    generalize ls[j]'_=Az at hc
    go_wp2_with fail
    go_roundw
    case rel=>exact⟨j+1,_,by go_num,hlt,As,by rw[List.length_set];exact HL.out,by rw[HLS.out];exact Aj.out,Ae.setCell (Q1 _) _⟩
    case measure=>simp[intOf]<;>omega
   ·have Ap:j=n:=by omega
    have Ag:ls=Ar4 n (num s):=by rw[HLS.out,Ap,Nat.sub_self,List.replicate_zero,List.append_nil]
    have HF:=Hd Ag;clear Ap Ag
    go_wp2
    go_ret2
    exact RetVE.mk rfl (Ah.own_at HL.out HF.out) Ae
 ·have HZ:=fun w=>Hd (Cr6 s n false w (by omega) Ab (Q3 hr))
  rw[Cn2 hn Ab hr]
  generalize (n+7)/8=m at *
  clear Ab
  go_enter Tryz.func219,Tryz.ntmps219
  go_wp2_with(first
   | (go_at_call 202;refine(Ai _).out.mono ?_;rintro e w' ⟨rfl,rfl⟩)
   | (go_at_call 238;refine(HZ _).out.mono ?_;rintro e w' ⟨rfl,rfl⟩))
  go_ret2
  exact RetVE.mk rfl (OwnV.nil _ _ _ _) (Q2 _ _)
end Go.P

namespace Go.P
open RowKit VB VarM BP
end Go.P
namespace Go.P
open RowKit VB VarM BP
theorem Bs5(vl:Value)(l:List Nat)(k:Int)(B:Nat)(w:World)(hr:RdN .u64 w B vl l)(hB:B<=w.heap.size)(hl:∀x∈l,x<2 ^ 64){s:ByteArray}{c:Nat}(h:Bh9 l k=(s,c)):
   Calls Tryz.prog 205 #[vl,.int .i64 k] w (RetSE s c w):=by
 have:=Dm4 vl l k B w hr hB hl
 rw[h] at this;exact this
theorem At2(s:ByteArray)(n k:Int)(w:World){l:List Nat}{c:Nat}(h:Ad2 s n k=(l,c)):
   Calls Tryz.prog 241 #[.string s,.int .i64 n,.int .i64 k] w (RetNE .u64 96 l c w):=by
 have:=Ck5 s n k w
 rw[h] at this;exact this
end Go.P
