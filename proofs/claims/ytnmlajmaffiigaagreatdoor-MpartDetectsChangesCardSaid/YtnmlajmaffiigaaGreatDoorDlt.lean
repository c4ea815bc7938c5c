/- Texts of one part, joined. -/
import Derived.Test.YtnmlajmaffiigaaGreatDoorGr
import Derived.Test.YtnmlajmaffiigaaGreatDoorGn
import Derived.Test.YtnmlajmaffiigaaGreatDoorGd
import Derived.StillTailTactics
import Derived.Deep.RegionWith
import Derived.Test.YtnmlajmaffiigaaGreatDoorGw
import Derived.Test.YtnmlajmaffiigaaGreatDoorGa
set_option linter.constructorNameAsVariable false
set_option maxRecDepth 100000
set_option maxHeartbeats 4000000
open Go Go.Proofs Go.Proofs.YtnmlajmaffiigaaGreatDoor Go.P
namespace Go.DL
open RowKit VB VarM BP RL
theorem Br0(z:Int):-9223372036854775808<=wrap64 z/\wrap64 z<=9223372036854775807:=by unfold wrap64;omega
def df:List Int->List Int
 | []=>[]
 | [_]=>[]
 | x::y::r=>wrap64 (y-x)::df (y::r)
theorem Cu7:∀l:List Int,(df l).length=l.length-1
 | []=>rfl
 | [_]=>rfl
 | x::y::r=>by rw[df,Q6,Cu7 (y::r)];simp
theorem df_at:∀{l:List Int}{i:Nat}{x y:Int},l[i]?=some x->l[i+1]?=some y->(df l)[i]?=some (wrap64 (y-x))
 | [],i,x,y,h,_=>by simp at h
 | [a],i,x,y,_,h=>by simp at h
 | a::b::r,0,x,y,h1,h2=>by
   simp at h1 h2;subst h1;subst h2;rfl
 | a::b::r,i+1,x,y,h1,h2=>by
   rw[df,List.getElem?_cons_succ]
   exact df_at (l:=b::r) (by simpa using h1) (by simpa using h2)
theorem Cu8:∀l:List Int,I64 (df l)
 | [],z,hz=>by simp[df] at hz
 | [_],z,hz=>by simp[df] at hz
 | x::y::r,z,hz=>by
   rw[df] at hz
   rcases List.mem_cons.1 hz with h | h
   ·rw[h];exact Br0 _
   ·exact Cu8 (y::r) z h
theorem Dq7:∀(l:List Int)(v:Int),l.foldl min v<=v/\∀x∈l,l.foldl min v<=x
 | [],v=>⟨Int.le_refl _,fun _ h=>by simp at h⟩
 | y::l,v=>by
   obtain⟨h1,h2⟩:=Dq7 l (min v y)
   rw[List.foldl_cons]
   refine⟨by omega,fun x hx=>?_⟩
   rcases List.mem_cons.1 hx with h | h
   ·subst h;omega
   ·exact h2 x h
theorem Dq8:∀(l:List Int)(v:Int),l.foldl min v=v\/l.foldl min v∈l
 | [],v=>.inl rfl
 | y::l,v=>by
   rw[List.foldl_cons]
   rcases Dq8 l (min v y) with h | h
   ·rcases Int.le_total v y with hv | hv
    ·left;omega
    ·right;rw[h,Int.min_eq_right hv];exact List.mem_cons_self ..
   ·right;exact List.mem_cons_of_mem _ h
def lst(d:List Int):Int:=d.foldl min (d.headD 0)
theorem Dr4{d:List Int}{x:Int}(h:x∈d):lst d<=x:=(Dq7 d _).2 x h
theorem Et3{d:List Int}(h:d≠[]):lst d∈d:=by
 unfold lst
 rcases Dq8 d (d.headD 0) with e | e
 ·rw[e]
  cases d with
  | nil=>exact absurd rfl h
  | cons x d=>exact List.mem_cons_self ..
 ·exact e
theorem Dq5:∀(l:List Nat)(v:Nat),l.foldl min v<=v/\∀x∈l,l.foldl min v<=x
 | [],v=>⟨Q1 _,fun _ h=>by simp at h⟩
 | y::l,v=>by
   obtain⟨h1,h2⟩:=Dq5 l (min v y)
   rw[List.foldl_cons]
   refine⟨by omega,fun x hx=>?_⟩
   rcases List.mem_cons.1 hx with h | h
   ·subst h;omega
   ·exact h2 x h
theorem Dq6:∀(l:List Nat)(v:Nat),l.foldl min v=v\/l.foldl min v∈l
 | [],v=>.inl rfl
 | y::l,v=>by
   rw[List.foldl_cons]
   rcases Dq6 l (min v y) with h | h
   ·rcases Nat.le_total v y with hv | hv
    ·left;omega
    ·right;rw[h,Nat.min_eq_right hv];exact List.mem_cons_self ..
   ·right;exact List.mem_cons_of_mem _ h
theorem Ch7:∀(l:List Nat)(v:Nat),v<=l.foldl max v/\∀x∈l,x<=l.foldl max v
 | [],v=>⟨Q1 _,fun _ h=>by simp at h⟩
 | y::l,v=>by
   obtain⟨h1,h2⟩:=Ch7 l (max v y)
   rw[List.foldl_cons]
   refine⟨by omega,fun x hx=>?_⟩
   rcases List.mem_cons.1 hx with h | h
   ·subst h;omega
   ·exact h2 x h
theorem Ch6:∀(l:List Nat)(v:Nat),l.foldl max v=v\/l.foldl max v∈l
 | [],v=>.inl rfl
 | y::l,v=>by
   rw[List.foldl_cons]
   rcases Ch6 l (max v y) with h | h
   ·rcases Nat.le_total y v with hv | hv
    ·left;omega
    ·right;rw[h,Nat.max_eq_right hv];exact List.mem_cons_self ..
   ·right;exact List.mem_cons_of_mem _ h
def lo(u:List Nat):Nat:=u.foldl min (u.headD 0)
def gr(u:List Nat):Nat:=u.foldl max (u.headD 0)
theorem Dt2{u:List Nat}(h:u≠[]):u.headD 0∈u:=by
 cases u with
 | nil=>exact absurd rfl h
 | cons x d=>exact List.mem_cons_self ..
theorem lo_le{u:List Nat}{x:Nat}(h:x∈u):lo u<=x:=(Dq5 u _).2 x h
theorem lo_in{u:List Nat}(h:u≠[]):lo u∈u:=by
 unfold lo
 rcases Dq6 u (u.headD 0) with e | e
 ·rw[e];exact Dt2 h
 ·exact e
theorem Fd2{u:List Nat}{x:Nat}(h:x∈u):x<=gr u:=(Ch7 u _).2 x h
theorem Dt3{u:List Nat}(h:u≠[]):gr u∈u:=by
 unfold gr
 rcases Ch6 u (u.headD 0) with e | e
 ·rw[e];exact Dt2 h
 ·exact e
theorem Fd1{u:List Nat}(h:u≠[]):u.foldl max 0=gr u:=by
 have h1:=(Ch7 u 0).2 _ (Dt3 h)
 rcases Ch6 u 0 with e | e
 ·omega
 ·have:=Fd2 e;omega
theorem Fb3{u:List Nat}(h:u≠[]):lo u=0↔0∈u:=by
 constructor
 ·intro e;rw[←e];exact lo_in h
 ·intro e;have:=lo_le e;omega
theorem An4{α β:Type}(f:β->α->β)(v:β){l:List α}{j:Nat}{x:α}(hx:l[j]?=some x):(l.take (j+1)).foldl f v=f ((l.take j).foldl f v) x:=by
 rw[List.take_add_one,hx,List.foldl_append];rfl
theorem Cm8{a b:Nat}(h:a<=b):wid a<=wid b:=(Bb6 _ _).2 (Nat.lt_of_le_of_lt h ((Bb6 _ _).1 (Q1 _)))
theorem Ew3(a b:Nat):wid (max a b)=max (wid a) (wid b):=by
 rcases Nat.le_total a b with h | h
 ·rw[Nat.max_eq_right h,Nat.max_eq_right (Cm8 h)]
 ·rw[Nat.max_eq_left h,Nat.max_eq_left (Cm8 h)]
theorem lt_wid(a:Nat):a<2 ^ wid a:=(Bb6 _ _).1 (Q1 _)
def off(m:Int)(d:List Int):List Nat:=d.map fun x=>(x-m).toNat
theorem Fa4(m:Int)(d:List Int):(off m d).length=d.length:=List.length_map _
theorem off_at{m:Int}{d:List Int}{i:Nat}{x:Int}(h:d[i]?=some x):(off m d)[i]?=some (x-m).toNat:=by unfold off;rw[List.getElem?_map,h];rfl
def Ay3(d:List Int):List Nat:=off (lst d) d
def wd(d:List Int):Nat:=wid (gr (Ay3 d))
theorem Ay2(d:List Int):(Ay3 d).length=d.length:=Fa4 _ _
theorem Bt4{d:List Int}(h:d≠[]):Ay3 d≠[]:=by unfold Ay3 off;simpa using h
theorem off_lt{m:Int}{d:List Int}(h:I64 d)(hm:-9223372036854775808<=m):∀x∈off m d,x<18446744073709551616:=by
 intro x hx
 simp only[off,List.mem_map] at hx
 obtain⟨y,hy,rfl⟩:=hx
 have:=h y hy
 omega
theorem Cs1{d:List Int}(h:I64 d)(hd:d≠[]):-9223372036854775808<=lst d/\lst d<=9223372036854775807:=h _ (Et3 hd)
theorem Dp5{d:List Int}(h:I64 d)(hd:d≠[]):∀x∈Ay3 d,x<18446744073709551616:=off_lt h (Cs1 h hd).1
theorem Ew4{d:List Int}(h:I64 d)(hd:d≠[]):wd d<=64:=Bb7 (Dp5 h hd _ (Dt3 (Bt4 hd)))
theorem Dp4(d:List Int):∀x∈Ay3 d,x<2 ^ wd d:=fun _ hx=>Nat.lt_of_le_of_lt (Fd2 hx) (lt_wid _)
def blk(d:List Int):List UInt8:=Aa4 (Ai4 (lst d)).toNat++[UInt8.ofNat (wd d)]++Ac4 (Ay3 d) (wd d)
theorem Fb0{c w:Nat}(h:w<=64):(c*w+7)/8<=8*c:=by
 have:c*w<=c*64:=Nat.mul_le_mul_left _ h
 omega
theorem Fg1{d:List Int}(h:I64 d)(hd:d≠[]):(blk d).length<=11+8*d.length:=by
 have h1:=Aa5 (zig_lt (Cs1 h hd))
 have h2:=Fb0 (c:=d.length) (Ew4 h hd)
 unfold blk
 rw[Q5,Q5,Ak6,Ay2]
 simp only[Q6,Q8]
 omega
def Ce7(d:List Int):List UInt8:=if d.length=0 then[] else blk (d.take 32)++Ce7 (d.drop 32)
termination_by d.length
decreasing_by rw[List.length_drop];omega
theorem Be8:Ce7 []=[]:=by rw[Ce7];simp
theorem Cj5{d:List Int}(h:d≠[]):Ce7 d=blk (d.take 32)++Ce7 (d.drop 32):=by
 rw[Ce7,if_neg]
 intro e;exact h (List.eq_nil_of_length_eq_zero e)
theorem Cf4{d:List Int}(h:d≠[]):d.take 32≠[]:=by
 cases d with
 | nil=>exact absurd rfl h
 | cons x d=>simp
theorem Bu3{d:List Int}(h:I64 d)(n:Nat):I64 (d.take n):=fun z hz=>h z (List.mem_of_mem_take hz)
theorem Bv2:∀(n:Nat)(d:List Int),d.length<=n->I64 d->(Ce7 d).length<=19*d.length
 | 0,d,hn,_=>by
   have:d=[]:=List.eq_nil_of_length_eq_zero (by omega)
   subst this;rw[Be8];simp
 | n+1,d,hn,hi=>by
   by_cases h:d=[]
   ·subst h;rw[Be8];simp
   ·have h1:=Fg1 (Bu3 hi 32) (Cf4 h)
    have hl:0<d.length:=List.length_pos_iff.2 h
    have h2:=Bv2 n (d.drop 32) (by rw[List.length_drop];omega) (hi.drop 32)
    rw[Cj5 h,Q5]
    rw[List.length_drop] at h2
    rw[List.length_take] at h1
    omega
def encL(l:List Int):List UInt8:=match l with
 | []=>[]
 | x::_=>Aa4 (Ai4 x).toNat++Ce7 (df l)
def encX(l:List Int):List UInt8:=if 4096<l.length then[] else encL l
theorem Cu3{l:List Int}(h:4096<l.length):encX l=[]:=by unfold encX;rw[if_pos h]
theorem Cj4{x:Int}{l:List Int}(h:(x::l).length<=4096):encX (x::l)=Aa4 (Ai4 x).toNat++Ce7 (df (x::l)):=by
 unfold encX;rw[if_neg (by omega)];rfl
theorem encX_len{l:List Int}(hi:I64 l):(encX l).length<=77834:=by
 by_cases h:4096<l.length
 ·rw[Cu3 h];decide
 ·cases l with
  | nil=>decide
  | cons x r=>
    rw[Cj4 (by omega),Q5]
    have h1:=Aa5 (zig_lt hi.head)
    have h2:=Bv2 _ (df (x::r)) (Q1 _) (Cu8 _)
    have h3:=Cu7 (x::r)
    omega
def okO(u:List Nat)(w:Nat)(m:Int):Prop:=lo u=0/\wid (gr u)=w/\m+gr u<=9223372036854775807
instance (u:List Nat) (w:Nat) (m:Int):Decidable (okO u w m):=by unfold okO;infer_instance
def pk(s:ByteArray)(b n:Nat):ByteArray:=s.extract (b+1) (b+1+n)
def getB(s:ByteArray)(p:Int)(c:Nat):List Int×Nat×Nat:=
 if(Aa2 s p).2.2≠0 then([],0,(Aa2 s p).2.2)
 else if(Aa2 s p).2.1=s.size then([],0,10)
 else if 64<bN s (Aa2 s p).2.1.toNat then([],0,2)
 else if s.size<(Aa2 s p).2.1.toNat+1+(c*bN s (Aa2 s p).2.1.toNat+7)/8 then([],0,10)
 else if ¬num (pk s (Aa2 s p).2.1.toNat ((c*bN s (Aa2 s p).2.1.toNat+7)/8))<2 ^ (c*bN s (Aa2 s p).2.1.toNat) then([],0,2)
 else if okO (Aq1 (bN s (Aa2 s p).2.1.toNat) c (num (pk s (Aa2 s p).2.1.toNat ((c*bN s (Aa2 s p).2.1.toNat+7)/8)))) (bN s (Aa2 s p).2.1.toNat) (Ak0 (Aa2 s p).1) then
  ((Aq1 (bN s (Aa2 s p).2.1.toNat) c (num (pk s (Aa2 s p).2.1.toNat ((c*bN s (Aa2 s p).2.1.toNat+7)/8)))).map (fun o:Nat=>Ak0 (Aa2 s p).1+o),(Aa2 s p).2.1.toNat+1+(c*bN s (Aa2 s p).2.1.toNat+7)/8,0)
 else([],0,2)
section
variable {s:ByteArray} {p:Int} {c a b w n:Nat}
theorem getB_e{b:Int}{e:Nat}(hg:Aa2 s p=(a,b,e))(he:e≠0):getB s p c=([],0,e):=by unfold getB;rw[hg,if_pos he]
theorem Ek7(hg:Aa2 s p=(a,(b:Int),0))(hb:b=s.size):getB s p c=([],0,10):=by
 unfold getB;rw[hg,if_neg (by simp),if_pos (by simp only;omega)]
theorem getB_w(hg:Aa2 s p=(a,(b:Int),0))(hb:b<s.size)(hw:bN s b=w)(h:64<w):getB s p c=([],0,2):=by
 unfold getB;rw[hg,if_neg (by simp),if_neg (by simp only;omega),if_pos (by simp only[Int.toNat_natCast];omega)]
theorem Dd3(hg:Aa2 s p=(a,(b:Int),0))(hb:b<s.size)(hw:bN s b=w)(h:w<=64)(hn:(c*w+7)/8=n)(hs:s.size<b+1+n):getB s p c=([],0,10):=by
 subst hw;subst hn
 unfold getB;rw[hg,if_neg (by simp),if_neg (by simp only;omega),if_neg (by simp only[Int.toNat_natCast];omega),if_pos (by simp only[Int.toNat_natCast];exact hs)]
theorem Dv0(hg:Aa2 s p=(a,(b:Int),0))(hb:b<s.size)(hw:bN s b=w)(h:w<=64)(hn:(c*w+7)/8=n)(hs:b+1+n<=s.size)(hr:¬num (pk s b n)<2 ^ (c*w)):getB s p c=([],0,2):=by
 subst hw;subst hn
 unfold getB;rw[hg,if_neg (by simp),if_neg (by simp only;omega),if_neg (by simp only[Int.toNat_natCast];omega),if_neg (by simp only[Int.toNat_natCast];omega),if_pos (by simp only[Int.toNat_natCast];exact hr)]
theorem Ek5{u:List Nat}(hg:Aa2 s p=(a,(b:Int),0))(hb:b<s.size)(hw:bN s b=w)(h:w<=64)(hn:(c*w+7)/8=n)(hs:b+1+n<=s.size)(hr:num (pk s b n)<2 ^ (c*w))(hu:Aq1 w c (num (pk s b n))=u)(ho:¬okO u w (Ak0 a)):getB s p c=([],0,2):=by
 subst hw;subst hn;subst hu
 unfold getB;rw[hg,if_neg (by simp),if_neg (by simp only;omega),if_neg (by simp only[Int.toNat_natCast];omega),if_neg (by simp only[Int.toNat_natCast];omega),if_neg (by simp only[Int.toNat_natCast];exact fun e=>e hr),if_neg (by simp only[Int.toNat_natCast];exact ho)]
theorem Dv1{u:List Nat}(hg:Aa2 s p=(a,(b:Int),0))(hb:b<s.size)(hw:bN s b=w)(h:w<=64)(hn:(c*w+7)/8=n)(hs:b+1+n<=s.size)(hr:num (pk s b n)<2 ^ (c*w))(hu:Aq1 w c (num (pk s b n))=u)(ho:okO u w (Ak0 a)):getB s p c=(u.map (fun o:Nat=>Ak0 a+o),b+1+n,0):=by
 subst hw;subst hn;subst hu
 unfold getB;rw[hg,if_neg (by simp),if_neg (by simp only;omega),if_neg (by simp only[Int.toNat_natCast];omega),if_neg (by simp only[Int.toNat_natCast];omega),if_neg (by simp only[Int.toNat_natCast];exact fun e=>e hr),if_pos (by simp only[Int.toNat_natCast];exact ho)]
 rfl
end
theorem Ez3{s:ByteArray}{b n:Nat}(h:b+1+n<=s.size):(pk s b n).size=n:=by unfold pk;rw[ByteArray.size_extract];omega
def acc(l d:List Int):List Int:=d.foldl (fun l x=>l++[wrap64 (l.getLastD 0+x)]) l
theorem Ec1(l:List Int):acc l []=l:=rfl
theorem Cx3(l:List Int){d:List Int}{j:Nat}{x:Int}(hx:d[j]?=some x):acc l (d.take (j+1))=acc l (d.take j)++[wrap64 ((acc l (d.take j)).getLastD 0+x)]:=An4 _ l hx
theorem Fg8(l a b:List Int):acc l (a++b)=acc (acc l a) b:=List.foldl_append
theorem acc_len:∀(d l:List Int),(acc l d).length=l.length+d.length
 | [],l=>rfl
 | x::d,l=>by
   show(acc (l++[wrap64 (l.getLastD 0+x)]) d).length=_
   rw[acc_len d,Q5,Q6];simp;omega
theorem Ev5:∀(r l:List Int)(x:Int),l.getLast?=some x->I64 (x::r)->acc l (df (x::r))=l++r
 | [],l,x,_,_=>by rw[df,Ec1,List.append_nil]
 | y::r,l,x,hl,hi=>by
   have e:l.getLastD 0=x:=by rw[List.getLastD_eq_getLast?,hl];rfl
   have hy:=hi.tail.head
   have e2:wrap64 (x+wrap64 (y-x))=y:=by unfold wrap64;omega
   show acc (l++[wrap64 (l.getLastD 0+wrap64 (y-x))]) (df (y::r))=_
   rw[e,e2,Ev5 r (l++[y]) y (by simp) hi.tail,List.append_assoc];rfl
def decB(s:ByteArray)(m:Nat)(p:Int)(l:List Int):List Int×Nat:=
 if m=0 then(if p<s.size then([],2) else(l,0))
 else if(getB s p (min m 32)).2.2≠0 then([],(getB s p (min m 32)).2.2)
 else decB s (m-min m 32) (getB s p (min m 32)).2.1 (acc l (getB s p (min m 32)).1)
termination_by m
decreasing_by omega
section
variable {s:ByteArray} {m:Nat} {p:Int} {l:List Int}
theorem decB_left(h:m=0)(hp:p<s.size):decB s m p l=([],2):=by rw[decB,if_pos h,if_pos hp]
theorem decB_done(h:m=0)(hp:¬p<s.size):decB s m p l=(l,0):=by rw[decB,if_pos h,if_neg hp]
theorem decB_e{c:Nat}{d:List Int}{q e:Nat}(h:m≠0)(hc:min m 32=c)(hg:getB s p c=(d,q,e))(he:e≠0):decB s m p l=([],e):=by subst hc;rw[decB,if_neg h,hg,if_pos he]
theorem decB_go{c:Nat}{d:List Int}{q:Nat}(h:m≠0)(hc:min m 32=c)(hg:getB s p c=(d,q,0)):decB s m p l=decB s (m-c) q (acc l d):=by subst hc;rw[decB,if_neg h,hg,if_neg (by simp)]
end
def decX(s:ByteArray)(n:Int):List Int×Nat:=
 if n<0\/4096<n then([],4) else if n=0 then(if s.size=0 then([],0) else([],2))
 else if(Aa2 s 0).2.2≠0 then([],(Aa2 s 0).2.2) else decB s (n.toNat-1) (Aa2 s 0).2.1 [Ak0 (Aa2 s 0).1]
theorem Em3{s:ByteArray}{n:Int}(h:n<0\/4096<n):decX s n=([],4):=by unfold decX;rw[if_pos h]
theorem decX_nil{s:ByteArray}(h:s.size=0):decX s 0=([],0):=by unfold decX;rw[if_neg (by omega),if_pos rfl,if_pos h]
theorem decX_some{s:ByteArray}(h:s.size≠0):decX s 0=([],2):=by unfold decX;rw[if_neg (by omega),if_pos rfl,if_neg h]
theorem decX_e{s:ByteArray}{n a e:Nat}{b:Int}(hn:n<=4096)(h0:n≠0)(hg:Aa2 s 0=(a,b,e))(he:e≠0):decX s n=([],e):=by
 unfold decX;rw[if_neg (by omega),if_neg (by omega),hg,if_pos he]
theorem decX_go{s:ByteArray}{n a:Nat}{b:Int}(hn:n<=4096)(h0:n≠0)(hg:Aa2 s 0=(a,b,0)):decX s n=decB s (n-1) b [Ak0 a]:=by
 unfold decX;rw[if_neg (by omega),if_neg (by omega),hg,if_neg (by simp),Int.toNat_natCast]
theorem Fa3{m:Int}{d:List Int}(h:∀x∈d,m<=x):(off m d).map (fun o:Nat=>m+o)=d:=by
 unfold off
 rw[List.map_map]
 refine(List.map_congr_left fun x hx=>?_).trans (List.map_id d)
 have:=h x hx
 simp only[Function.comp_def,id]
 omega
theorem Ez9{d:List Int}(h:I64 d)(hd:d≠[]):okO (Ay3 d) (wd d) (lst d):=by
 refine⟨(Fb3 (Bt4 hd)).2 ?_,rfl,?_⟩
 ·have:=Et3 hd
  unfold Ay3 off
  rw[List.mem_map]
  exact⟨_,this,by omega⟩
 ·have hg:=Dt3 (Bt4 hd)
  generalize gr (Ay3 d)=g at hg
  unfold Ay3 off at hg
  rw[List.mem_map] at hg
  obtain⟨x,hx,rfl⟩:=hg
  have h1:=Dr4 hx
  have h2:=h x hx
  omega
theorem Ek8{s:ByteArray}{Aa Ab:List UInt8}{d:List Int}(hi:I64 d)(hd:d≠[])(hl:d.length<=4096)(hs:s.data.toList=Aa++(blk d++Ab)):
   getB s ((Aa.length:Nat):Int) d.length=(d,(Aa++blk d).length,0):=by
 have hm:=Cs1 hi hd
 have hz:=Av7 hm.1 hm.2
 have hw:=Ew4 hi hd
 have Ae:s.data.toList=Aa++Aa4 (Ai4 (lst d)).toNat++(UInt8.ofNat (wd d)::(Ac4 (Ay3 d) (wd d)++Ab)):=by
  rw[hs];unfold blk;simp only[List.append_assoc,List.cons_append,List.nil_append]
 have hg:=Aj4 (s:=s) (a:=Aa) (r:=UInt8.ofNat (wd d)::(Ac4 (Ay3 d) (wd d)++Ab)) (zig_lt hm) Ae
 generalize hb:(Aa++Aa4 (Ai4 (lst d)).toNat).length=b at hg
 have Ac:=Ak6 (Ay3 d) (wd d)
 rw[Ay2] at Ac
 have Ah:s.size=b+1+(d.length*wd d+7)/8+Ab.length:=by
  rw[←Aa1,Ae,Q5,hb,Q6,Q5,Ac];omega
 have Ag:bN s b=wd d:=by
  unfold bN
  rw[Ae,←hb,List.getD_eq_getElem?_getD,List.getElem?_append_right (Q1 _),Nat.sub_self]
  exact Nat.mod_eq_of_lt (by omega:wd d<256)
 have Af:pk s b ((d.length*wd d+7)/8)=str (Ac4 (Ay3 d) (wd d)):=by
  unfold pk
  rw[Aa8,Ae,←hb]
  congr 1
  rw[show(Aa++Aa4 (Ai4 (lst d)).toNat).length+1=(Aa++Aa4 (Ai4 (lst d)).toNat).length+(1:Nat) from rfl,List.drop_append,List.drop_eq_nil_of_le (by omega),List.nil_append]
  rw[show(Aa++Aa4 (Ai4 (lst d)).toNat).length+1-(Aa++Aa4 (Ai4 (lst d)).toNat).length=1 from by omega,List.drop_succ_cons,List.drop_zero]
  rw[show(Aa++Aa4 (Ai4 (lst d)).toNat).length+1+(d.length*wd d+7)/8-((Aa++Aa4 (Ai4 (lst d)).toNat).length+1)=(Ac4 (Ay3 d) (wd d)).length from by rw[Ac];omega,List.take_left]
 have Ad:=Bn7 (l:=Ay3 d) hw (by rw[Ay2];exact hl) (Dp4 d)
 have hN:num (str (Ac4 (Ay3 d) (wd d)))<2 ^ (d.length*wd d)/\Aq1 (wd d) d.length (num (str (Ac4 (Ay3 d) (wd d))))=Ay3 d:=by
  rw[Ay2] at Ad
  by_cases hn:num (str (Ac4 (Ay3 d) (wd d)))<2 ^ (d.length*wd d)
  ·rw[Am8 hl hw (by rw[Aa3,Ac]) hn] at Ad
   exact⟨hn,(Prod.mk.inj Ad).1⟩
  ·rw[Al5 hl hw (by rw[Aa3,Ac]) hn] at Ad
   exact absurd (Prod.mk.inj Ad).2 (by simp)
 have ez:Ak0 (((Ai4 (lst d)).toNat:Nat):Int)=lst d:=by rw[Int.toNat_of_nonneg hz.1,Bf8]
 rw[Dv1 (u:=Ay3 d) hg (by omega) Ag hw rfl (by omega) (by rw[Af];exact hN.1) (by rw[Af];exact hN.2) (by rw[ez];exact Ez9 hi hd),ez]
 refine Prod.mk.injEq ..▸⟨Fa3 (fun x hx=>Dr4 hx),?_⟩
 refine Prod.mk.injEq ..▸⟨?_,rfl⟩
 unfold blk
 rw[←hb]
 simp only[Q5,Q6,Q8,Ac]
 omega
theorem En4(s:ByteArray):∀(k:Nat)(d l:List Int)(Aa:List UInt8),d.length<=k->I64 d->s.data.toList=Aa++Ce7 d->decB s d.length (Aa.length:Nat) l=(acc l d,0):=by
 intro k
 induction k with
 | zero=>
   intro d l Aa hk _ hs
   have:d=[]:=List.eq_nil_of_length_eq_zero (by omega)
   subst this
   rw[Be8,List.append_nil] at hs
   rw[show([]:List Int).length=0 from rfl,decB_done rfl (by rw[←Aa1,hs];omega),Ec1]
 | succ k ih=>
   intro d l Aa hk hi hs
   by_cases h:d=[]
   ·subst h;exact ih [] l Aa (by simp) hi hs
   ·have hl:0<d.length:=List.length_pos_iff.2 h
    rw[Cj5 h] at hs
    have hc:min d.length 32=(d.take 32).length:=by rw[List.length_take];omega
    have hg:=Ek8 (Bu3 hi 32) (Cf4 h) (by rw[List.length_take];omega) hs
    rw[decB_go (by omega) hc hg]
    have hd:d.length-(d.take 32).length=(d.drop 32).length:=by rw[List.length_take,List.length_drop];omega
    rw[hd,ih (d.drop 32) _ (Aa++blk (d.take 32)) (by rw[List.length_drop];omega) (hi.drop 32) (by rw[hs,List.append_assoc]),←Fg8,List.take_append_drop]
theorem decX_enc{l:List Int}(h:l.length<=4096)(hi:I64 l):decX (str (encX l)) (l.length:Nat)=(l,0):=by
 cases l with
 | nil=>exact decX_nil rfl
 | cons x r=>
   rw[Cj4 h]
   have hz:=Av7 hi.head.1 hi.head.2
   have hs:(str (Aa4 (Ai4 x).toNat++Ce7 (df (x::r)))).data.toList=[]++Aa4 (Ai4 x).toNat++Ce7 (df (x::r)):=rfl
   have hg:=Aj4 (zig_lt hi.head) hs
   have ez:Ak0 (((Ai4 x).toNat:Nat):Int)=x:=by rw[Int.toNat_of_nonneg hz.1,Bf8]
   rw[decX_go h (by simp) hg,ez]
   have hd:(x::r).length-1=(df (x::r)).length:=(Cu7 _).symm
   rw[hd,List.nil_append,En4 _ _ (df (x::r)) [x] (Aa4 (Ai4 x).toNat) (Q1 _) (Cu8 _) rfl,Ev5 r [x] x rfl hi]
   rfl
end Go.DL
namespace Go.VB
open RowKit
section
variable {α:Type} {f:α->Value} {e:TypeId} {w w':World} {l m:List α} {base g c:Nat}
theorem RowV.keep{row:Option Nat}(h:RowV f e w base g c l)(hg:w.grownBy w' row)(Aa:row≠some g):RowV f e w' base g c l:=
 World.ownsRow.kept h hg (.inr (by simp only[Value.ownBlock];exact fun e=>Aa e.symm))
end
end Go.VB
namespace Go.P
open RowKit VB VarM BP RL DL
theorem Cs8(s:ByteArray)(p:Int)(w:World)(hs:s.size<=maxLen){a:Nat}{b:Int}{c:Nat}(hg:Aa2 s p=(a,b,c))(hc:c≠0):
   Calls Tryz.prog 245 #[.string s,.int .i64 p] w (Ret (.tuple #[.int .i64 0,.int .i64 0,.int .i64 (c:Int)]) w):=by
 have HG:=Hd (Al0 s p w hs hg)
 have hd:((c:Int)!=0)=true:=by simp;omega
 clear hg hc
 go_enter Tryz.func245,Tryz.ntmps245
 go_wp2_with(go_at_call 180;(with_reducible refine HG.out.mono ?_);rintro e w' ⟨rfl,rfl⟩)
 go_ret3
 exact Ret.mk rfl
theorem Cb3(s:ByteArray)(p:Int)(w:World)(hs:s.size<=maxLen){a:Nat}{b:Int}(hg:Aa2 s p=(a,b,0)):
   Calls Tryz.prog 245 #[.string s,.int .i64 p] w (Ret (.tuple #[.int .i64 (Ak0 a),.int .i64 b,.int .i64 0]) w):=by
 have HG:=Hd (Ae7 s p w hs hg)
 have hz:a<18446744073709551616:=by
  obtain⟨_,_,_,_,_,_,_,h⟩:=getR_zero hg;exact h
 have HZ:=Hd (Bd3 a w (by omega) (by omega))
 clear hg hz
 go_enter Tryz.func245,Tryz.ntmps245
 go_wp2_with(first
  | (go_at_call 180;(with_reducible refine HG.out.mono ?_);rintro e w' ⟨rfl,rfl⟩)
  | (go_at_call 237;(with_reducible refine HZ.out.mono ?_);rintro e w' ⟨rfl,rfl⟩))
 go_ret3
 exact Ret.mk rfl
theorem Fb8(v:Value)(u:List Nat)(B:Nat)(w:World)(hr:RdN .u64 w B v u)(hB:B<=w.heap.size)(h0:0<u.length)(Ag:∀x∈u,x<18446744073709551616):
   Calls Tryz.prog 254 #[v] w (RetB (.tuple #[.int .u64 (lo u:Nat),.int .u64 (gr u:Nat)]) w):=by
 obtain⟨A,c,rfl,Ak,Af,Ab⟩:=hr
 have hr:RdN .u64 w B (.slice A u.length c) u:=⟨A,c,rfl,Ak,Af,Ab⟩
 unfold maxLen at Af
 obtain⟨ad,rfl,An,Ac⟩:=Ab 0 h0
 rw[Ce1] at Ac
 have hh:u.getD 0 0=u.headD 0:=by cases u<;>rfl
 rw[hh] at Ac
 have hl:u.foldl min (u.headD 0)=lo u:=rfl
 have hm:u.foldl max (u.headD 0)=gr u:=rfl
 generalize u.headD 0=q at *
 generalize lo u=L at *
 generalize gr u=G at *
 clear Ab hh
 have HR:=Hd hr;have HL:=Hd hl;have HM:=Hd hm;have H64:=Hd Ag
 clear hr hl hm Ag
 go_enter Tryz.func254,Tryz.ntmps254
 go_wp2_with fail
 go_region
 go_wp2_with fail
 go_loopw[4,5,16] (fun a b i wr=>∃(x y j:Nat),a=.int .u64 x/\b=.int .u64 y/\i=.int .i64 j/\j<=u.length/\(u.take j).foldl min q=x/\(u.take j).foldl max q=y/\Below w.heap.size w wr) (fun _ _ i _=>u.length-(intOf i).toNat)
 case atStart=>exact⟨q,q,0,rfl,rfl,rfl,Nat.zero_le _,rfl,rfl,(Q2 _ _).drew⟩
 case round=>
  clear Ac
  obtain⟨x,y,j,rfl,rfl,rfl,hj,hx,hy,Aa⟩:=hrel
  have HX:=Hd hx;have HY:=Hd hy
  clear hx hy
  by_cases hlt:j<u.length
  ·obtain⟨_,_,Ai,_,_,Ae⟩:=HR.out.below (Aa.mono hB)
   cases Ai
   obtain⟨Ao,e1,_,Al⟩:=Ae j hlt
   cases e1
   have Ad:u[j]?=some (u.getD j 0):=by rw[List.getD_eq_getElem?_getD,Q7 hlt];rfl
   have Aj:=Hd (An4 min q Ad)
   have Ah:=Hd (An4 max q Ad)
   clear Ae Ad
   generalize u.getD j 0=V at *
   go_wp2_with fail
   go_roundw
   case rel=>exact⟨min x V,max y V,j+1,Bg1 (by split<;>omega),Bg1 (by split<;>omega),by go_num,hlt,by rw[Aj.out,HX.out],by rw[Ah.out,HY.out],Aa⟩
   case measure=>simp[intOf]<;>omega
  ·have hx:x=L:=by rw[←HX.out,←HL.out,List.take_of_length_le (by omega)]
   have hy:y=G:=by rw[←HY.out,←HM.out,List.take_of_length_le (by omega)]
   subst hx;subst hy
   go_wp2
   go_ret2
   exact RetB.mk rfl Aa
end Go.P
namespace Go.DL
open RowKit VB VarM BP
theorem Fa2{d:List Int}{i:Nat}{x:Int}(h:d[i]?=some x):(Ay3 d)[i]?=some (x-lst d).toNat:=off_at h
theorem Ag1{P:Program}(a b:List UInt8)(h:a.length+b.length<=4611686018427387904)(w:World):(Op.stringOp .add (str a) (str b)).run P w=.ok (.string (str (a++b))) w:=by
 rw[run_string_add_sum w (str a) (str b) (by rw[Aa3,Aa3];omega),Ab8]
end Go.DL
namespace Go.P
open RowKit VB VarM BP RL DL
end Go.P
namespace Go.VB
open RowKit
end Go.VB
namespace Go.P
open RowKit VB VarM BP RL DL
end Go.P
namespace Go.DL
open RowKit VB VarM BP RL
def RetG3(e:TypeId)(x:List Int×Nat×Nat)(w:World):Ending->World->Prop:=fun en w'=>
 ∃v,en=.returned (.tuple #[v,.int .i64 (x.2.1:Int),.int .i64 (x.2.2:Int)])/\OwnV (Value.int .i64) e w' w.heap.size v x.1/\Below w.heap.size w w'
theorem RetG3.mk{e:TypeId}{l:List Int}{q c:Nat}{w w':World}{x v:Value}(hx:x=.tuple #[v,.int .i64 (q:Int),.int .i64 (c:Int)])(ho:OwnV (Value.int .i64) e w' w.heap.size v l)(hb:Below w.heap.size w w'):RetG3 e (l,q,c) w (.returned x) w':=⟨v,by rw[hx],ho,hb⟩
theorem map_at{u:List Nat}{m:Int}{i o:Nat}(h:u[i]?=some o):(u.map fun o:Nat=>m+(o:Int))[i]?=some (m+o):=by rw[List.getElem?_map,h];rfl
theorem Dj0{s:ByteArray}(h:¬s.size=0):s.toList.isEmpty=false:=by
 rw[ByteArray.toList_eq]
 cases hl:s.data.toList with
 | nil=>rw[←Aa1,hl] at h;exact absurd rfl h
 | cons _ _=>rfl
end Go.DL
namespace Go.P
open RowKit VB VarM BP RL DL
theorem Cl6(v:Value)(u:List Nat)(m:Int)(B:Nat)(w:World)(hr:RdN .u64 w B v u)(hB:B<=w.heap.size)(hl:u.length<=4096)(hm:-9223372036854775808<=m/\m<=9223372036854775807)(hs:∀o∈u,m+(o:Int)<=9223372036854775807):
   Calls Tryz.prog 263 #[v,.int .i64 m] w (RetV (Value.int .i64) 2 (u.map fun o:Nat=>m+(o:Int)) w):=by
 obtain⟨A,c,rfl,Au,Ao,Ah⟩:=hr
 have hr:RdN .u64 w B (.slice A u.length c) u:=⟨A,c,rfl,Au,Ao,Ah⟩
 clear Ah
 unfold maxLen at Ao
 have Aq:=Am9 (P:=Tryz.prog) (t:=197) (z:=.int .i64 0) rfl Tryz.underlying197 Tryz.infI64 u.length (by omega) (by unfold maxLen;omega) w
 have Aa:=RowV.made (Value.int .i64) 0 2 w w.heap.size u.length (Q1 _) (by unfold maxLen;omega)
 have Ad:=(Q2 w.heap.size w).alloc (Q1 _) (.cells (madeCells #[.int .i64 0] u.length) 2)
 generalize w.alloc (.cells (madeCells #[.int .i64 0] u.length) 2)=w1 at Aq Aa Ad
 have Ap:(u.map fun o:Nat=>m+(o:Int)).length=u.length:=List.length_map _
 have Al:=fun i o(h:u[i]?=some o)=>map_at (m:=m) h
 generalize (u.map fun o:Nat=>m+(o:Int))=L0 at *
 have HR:=Hd hr;have HDL:=Hd Ap;have HS:=Hd hs;have HMB:=fun i o h=>Hd (Al i o h)
 clear hr Ap hs Al
 go_enter Tryz.func263,Tryz.ntmps263
 go_wp2_with fail
 go_loopw[13] (fun i wr=>∃(j:Nat)(L:List Int),i=.int .i64 j/\j<=u.length/\RowV (Value.int .i64) 2 wr w.heap.size w.heap.size u.length L/\L=L0.take j++List.replicate (u.length-j) 0/\Below w.heap.size w wr) (fun i _=>u.length-(intOf i).toNat)
 case atStart=>exact⟨0,_,rfl,Nat.zero_le _,Aa,Bp3 L0 u.length 0,Ad⟩
 case round=>
  clear Aa Ad Aq
  obtain⟨j,L,rfl,hj,Aa,hL,Ac⟩:=hrel
  have HL:=Hd hL;clear hL
  by_cases hjl:j<u.length
  ·have Af:u[j]?=some (u.getD j 0):=by rw[List.getD_eq_getElem?_getD,Q7 hjl];rfl
   obtain⟨_,_,As,_,_,Ai⟩:=HR.out.below (Ac.mono hB)
   cases As
   obtain⟨ad,rfl,_,Ba⟩:=Ai j hjl
   have Ak:=HS.out _ (List.mem_of_getElem? Af)
   have Ag:=Hd (Ct7 (z:=0) HDL.out hjl (HMB _ _ Af).out)
   clear Ai Af
   generalize u.getD j 0=o at *
   obtain⟨x,hx⟩:∃x,m+(o:Int)=x:=⟨_,rfl⟩
   rw[hx] at Ag Ak
   have hE:wrap64 (m+wrap64 (o:Int))=x:=by unfold wrap64;omega
   have An:RowV (Value.int .i64) 2 (wr.setCell ⟨w.heap.size,j,none⟩ (.int .i64 x)) w.heap.size w.heap.size u.length (L.set j x):=Aa.store j x
   have Ay:=Aa.frozen j
   have Az:L.length=u.length:=by rw[HL.out];exact Ct8 HDL.out hj
   have Aj:L[j]?=some (L[j]'(by omega)):=Q7 _
   have Aw:=Aa.cell j _ Aj
   generalize L[j]'_=Bb at Aw
   have Ab:Below w.heap.size w (wr.setCell ⟨w.heap.size,j,none⟩ (.int .i64 x)):=Ac.setCell (p:=⟨w.heap.size,j,none⟩) (Q1 _) _
   have Ar:=Hd An;have HBE:=Hd Ab
   clear Aj An Ab hx Ak
   go_wp2_with fail
   go_roundw
   case rel=>exact⟨j+1,L.set j x,by go_num,hjl,Ar.out,by rw[HL.out];exact Ag.out,HBE.out⟩
   case measure=>simp[intOf]<;>omega
  ·have Ax:j=u.length:=by omega
   have Ae:L=L0:=by rw[HL.out,Ax];exact Ct9 HDL.out
   subst Ae
   go_wp2
   go_ret
   exact RetV.mk rfl (Aa.own_at HDL.out rfl) Ac
section
variable (v:Value) (u:List Nat) (k:Nat) (m:Int) (B:Nat) (w:World) (hr:RdN .u64 w B v u) (hB:B<=w.heap.size) (h0:0<u.length) (h64:∀x∈u,x<18446744073709551616) (hk:k<=64) (hm:-9223372036854775808<=m/\m<=9223372036854775807)
include hr hB h0 h64 hk hm
theorem Dg1(b:Bool)(hb:b=decide (okO u k m)):Calls Tryz.prog 262 #[v,.int .i64 (k:Int),.int .i64 m] w (RetB (.bool b) w):=by
 have Ad:=Hd (Fb8 v u B w hr hB h0 h64)
 have Ab:=h64 _ (Dt3 (List.ne_nil_of_length_pos h0))
 have HW:=fun w=>Hd (Bb4 (gr u) w Ab)
 obtain⟨R,hR⟩:∃R:Nat,(9223372036854775807-m).toNat=R:=⟨_,rfl⟩
 have Ag:IntKind.u64.wrap (9223372036854775807-IntKind.u64.wrap m)=(R:Int):=by rw[IntKind.wrap_u64,IntKind.wrap_u64];omega
 have Ah:R<18446744073709551616:=by omega
 have Ae:b=(decide (lo u=0)&&decide (wid (gr u)=k)&&decide (gr u<=R)):=by
  rw[hb,←Bool.decide_and,←Bool.decide_and]
  refine decide_eq_decide.2 ?_
  unfold okO
  rw[and_assoc]
  refine and_congr_right fun _=>and_congr_right fun _=>?_
  omega
 have Af:=Bb7 Ab
 clear hr h64 hb hR h0 hB
 generalize lo u=lw at *
 generalize wid (gr u)=d at *
 generalize gr u=g at *
 have Ac:=Hd Ae;clear Ae
 by_cases h1:lw=0
 ·subst h1
  by_cases h2:d=k
  ·subst h2
   by_cases h3:g<=R
   ·have hd:decide (g<=R)=true:=Q4 h3
    go_enter Tryz.func262,Tryz.ntmps262
    go_wp2_with(first
     | (go_at_call 254;(with_reducible refine Ad.out.mono ?_);rintro e w2 ⟨rfl,Aa⟩)
     | (go_at_call 255;(with_reducible refine(HW _).out.mono ?_);rintro e w' ⟨rfl,rfl⟩))
    go_ret
    exact RetB.mk (by rw[Ac.out];simp[h3]) Aa
   ·have hd:decide (g<=R)=false:=Q3 h3
    go_enter Tryz.func262,Tryz.ntmps262
    go_wp2_with(first
     | (go_at_call 254;(with_reducible refine Ad.out.mono ?_);rintro e w2 ⟨rfl,Aa⟩)
     | (go_at_call 255;(with_reducible refine(HW _).out.mono ?_);rintro e w' ⟨rfl,rfl⟩))
    go_ret
    exact RetB.mk (by rw[Ac.out];simp[h3]) Aa
  ·have hd:((d:Int)==(k:Int))=false:=beq_eq_false_iff_ne.2 (by omega)
   go_enter Tryz.func262,Tryz.ntmps262
   go_wp2_with(first
    | (go_at_call 254;(with_reducible refine Ad.out.mono ?_);rintro e w2 ⟨rfl,Aa⟩)
    | (go_at_call 255;(with_reducible refine(HW _).out.mono ?_);rintro e w' ⟨rfl,rfl⟩))
   go_ret
   exact RetB.mk (by rw[Ac.out];simp[h2]) Aa
 ·have hd:((lw:Int)==0)=false:=beq_eq_false_iff_ne.2 (by omega)
  go_enter Tryz.func262,Tryz.ntmps262
  go_wp2_with(first
   | (go_at_call 254;(with_reducible refine Ad.out.mono ?_);rintro e w2 ⟨rfl,Aa⟩)
   | (go_at_call 255;(with_reducible refine(HW _).out.mono ?_);rintro e w' ⟨rfl,rfl⟩))
  go_ret
  exact RetB.mk (by rw[Ac.out];simp[h1]) Aa
end
theorem Cj8(s:ByteArray)(w:World):Calls Tryz.prog 244 #[.string s] w (RetVE (Value.int .i64) 2 (decX s 0).1 (decX s 0).2 w):=by
 by_cases h:s.size=0
 ·rw[decX_nil h]
  have hs:s.data.toList=[]:=List.eq_nil_of_length_eq_zero (by rw[Aa1];exact h)
  obtain rfl:s=⟨#[]⟩:=ByteArray.ext (Array.ext' hs)
  clear hs h
  go_enter Tryz.func244,Tryz.ntmps244
  go_wp2
  go_ret2
  exact RetVE.mk rfl (OwnV.nil _ _ _ _) (Q2 _ _)
 ·rw[decX_some h]
  have hn:=Dj0 h
  go_enter Tryz.func244,Tryz.ntmps244
  go_wp2
  go_ret2
  exact RetVE.mk rfl (OwnV.nil _ _ _ _) (Q2 _ _)
section
variable (s:ByteArray) (p:Int) (c:Nat) (w:World) (hs:s.size<=140737488351232) (h1:1<=c) (h32:c<=32)
include hs h1 h32
theorem Cb4:Calls Tryz.prog 246 #[.string s,.int .i64 p,.int .i64 (c:Int)] w (RetG3 2 (getB s p c) w):=by
 have Ar:s.size<=maxLen:=by unfold maxLen;omega
 obtain⟨a,b,e,hg⟩:∃a b e,Aa2 s p=(a,b,e):=⟨_,_,_,rfl⟩
 by_cases he:e=0
 ·subst he
  obtain⟨q,hq,Bd⟩:∃q:Nat,b=q/\q<=s.size:=by
   obtain⟨k,m,_,h2,_,h3,_⟩:=getR_zero hg
   exact⟨k+m,by omega,h3⟩
  subst hq
  have ha:a<18446744073709551616:=by
   obtain⟨_,_,_,_,_,_,_,h⟩:=getR_zero hg;exact h
  have HG:=Hd (Cb3 s p w Ar hg)
  by_cases hb:q<s.size
  ·have Ay:=Ai1 s q hb
   have Aj:=Ah2 s q
   by_cases hw:bN s q<=64
   ·obtain⟨n,hn⟩:∃n,(c*bN s q+7)/8=n:=⟨_,rfl⟩
    obtain⟨k,hk⟩:∃k,bN s q=k:=⟨_,rfl⟩
    have Ai:Bt8 (c:Int) (k:Int)=(n:Int):=by rw[←hk,Ak4 (by omega) hw,hn]
    have Bc:=Fb0 (c:=c) hw
    rw[hn] at Bc
    rw[hk] at hw hn Ay Aj
    have HN:=fun w=>Hd (Cd8 (c:Int) (k:Int) w)
    rw[Ai] at HN
    by_cases hsz:q+1+n<=s.size
    ·have Ah:=Ez3 hsz
     have hx:s.extract (q+1) (q+1+n)=pk s q n:=rfl
     have hz:=Er3 (v:=(a:Int)) (by omega) (by omega)
     by_cases hr:num (pk s q n)<2 ^ (c*k)
     ·have Aw:=Aj5 k c (num (pk s q n))
      have hu:=Cj6 k c (num (pk s q n))
      have Af:=fun w=>Hd (At2 (pk s q n) (c:Int) (k:Int) w (Am8 (n:=c) (w:=k) (by omega) hw (by rw[Ah,hn]) hr))
      have An:=fun(ho:¬okO (Aq1 k c (num (pk s q n))) k (Ak0 a))=>Ek5 (c:=c) hg hb hk hw hn hsz hr rfl ho
      have Aq:=fun(ho:okO (Aq1 k c (num (pk s q n))) k (Ak0 a))=>Dv1 (c:=c) hg hb hk hw hn hsz hr rfl ho
      generalize Aq1 k c (num (pk s q n))=u at *
      generalize pk s q n=S at *
      generalize Ak0 (a:Int)=m at *
      have Ao:(2:Nat) ^ k<=18446744073709551616:=by
       have:=Nat.pow_le_pow_right (n:=2) (by decide) hw
       simpa using this
      have Ae:∀x∈u,x<18446744073709551616:=fun x hx=>Nat.lt_of_lt_of_le (hu x hx) Ao
      have Bb:0<u.length:=by omega
      have Ba:u.length<=4096:=by omega
      have HA:=fun(v:Value)w(h:RdN .u64 w w.heap.size v u)=>Dg1 v u k m _ w h (Q1 _) Bb Ae hw hz
      by_cases ho:okO u k m
      ·rw[Aq ho]
       have Al:=fun v w h=>Hd (HA v w h true (Q4 ho).symm)
       have As:∀o∈u,m+(o:Int)<=9223372036854775807:=fun o h=>by
        have h1:=Fd2 h
        have h2:=ho.2.2
        omega
       have Ax:=fun(v:Value)w(h:RdN .u64 w w.heap.size v u)=>Hd (Cl6 v u m _ w h (Q1 _) Ba hz As)
       have HX:=Hd hx
       clear An Aq HA ho As hu Ae Aw Ah hr hg hk hn Ai Ao hx
       generalize (u.map fun o:Nat=>m+(o:Int))=L at *
       go_enter Tryz.func246,Tryz.ntmps246
       go_wp2_with(first
        | (go_at_call 245;(with_reducible refine HG.out.mono ?_);rintro e w' ⟨rfl,rfl⟩)
        | (go_at_call 259;(with_reducible refine(HN _).out.mono ?_);rintro e w' ⟨rfl,rfl⟩))
       rw[HX.out]
       refine(Af _).out.mono ?_;rintro e w1 ⟨v1,rfl,Aa,Ad⟩
       have Ab:=Aa.read
       clear Aa Af HX
       go_wp2_with fail
       refine(Al _ _ Ab).out.mono ?_;rintro e w2 ⟨rfl,Ag⟩
       have Ak:=Ab.step Ag
       have hB:=Aa0 Ad Ag
       clear Ab Ad Ag Al
       go_wp2_with fail
       refine(Ax _ _ Ak).out.mono ?_;rintro e w3 ⟨v3,rfl,Ac,Au⟩
       have Ap:=Ac.lower hB.size
       have Az:=Aa0 hB Au
       clear Ak Ac Au Ax
       go_wp2
       go_ret3
       exact RetG3.mk rfl Ap Az
      ·rw[An ho]
       have Al:=fun v w h=>Hd (HA v w h false (Q3 ho).symm)
       have HX:=Hd hx
       clear An Aq HA ho hu Ae Aw Ah hr hg hk hn Ai Ao hx
       go_enter Tryz.func246,Tryz.ntmps246
       go_wp2_with(first
        | (go_at_call 245;(with_reducible refine HG.out.mono ?_);rintro e w' ⟨rfl,rfl⟩)
        | (go_at_call 259;(with_reducible refine(HN _).out.mono ?_);rintro e w' ⟨rfl,rfl⟩))
       rw[HX.out]
       refine(Af _).out.mono ?_;rintro e w1 ⟨v1,rfl,Aa,Ad⟩
       have Ab:=Aa.read
       clear Aa Af HX
       go_wp2_with fail
       refine(Al _ _ Ab).out.mono ?_;rintro e w2 ⟨rfl,Ag⟩
       have hB:=Aa0 Ad Ag
       clear Ab Ad Ag Al
       go_wp2
       go_ret3
       exact RetG3.mk rfl (OwnV.nil _ _ _ _) hB
     ·have Af:=fun w=>Hd (At2 (pk s q n) (c:Int) (k:Int) w (Al5 (n:=c) (w:=k) (by omega) hw (by rw[Ah,hn]) hr))
      rw[Dv0 hg hb hk hw hn hsz hr]
      have HX:=Hd hx
      clear hg hk hn Ai hr Ah hx
      generalize pk s q n=S at *
      generalize Ak0 (a:Int)=m at *
      go_enter Tryz.func246,Tryz.ntmps246
      go_wp2_with(first
       | (go_at_call 245;(with_reducible refine HG.out.mono ?_);rintro e w' ⟨rfl,rfl⟩)
       | (go_at_call 259;(with_reducible refine(HN _).out.mono ?_);rintro e w' ⟨rfl,rfl⟩))
      rw[HX.out]
      refine(Af _).out.mono ?_;rintro e w1 ⟨v1,rfl,Aa,Ad⟩
      have Ab:=Aa.read
      clear Aa Af HX
      clear Ab
      go_wp2
      go_ret3
      exact RetG3.mk rfl (OwnV.nil _ _ _ _) Ad
    ·rw[Dd3 hg hb hk hw hn (by omega)]
     have hd:¬((q:Int)+1+(n:Int)<=(s.size:Int)):=by omega
     clear hg hk hn Ai
     go_enter Tryz.func246,Tryz.ntmps246
     go_wp2_with(first
      | (go_at_call 245;(with_reducible refine HG.out.mono ?_);rintro e w' ⟨rfl,rfl⟩)
      | (go_at_call 259;(with_reducible refine(HN _).out.mono ?_);rintro e w' ⟨rfl,rfl⟩))
     go_ret3
     exact RetG3.mk rfl (OwnV.nil _ _ _ _) (Q2 _ _)
   ·rw[getB_w hg hb rfl (by omega)]
    clear hg
    generalize bN s q=k at *
    go_enter Tryz.func246,Tryz.ntmps246
    go_wp2_with(go_at_call 245;(with_reducible refine HG.out.mono ?_);rintro e w' ⟨rfl,rfl⟩)
    go_ret3
    exact RetG3.mk rfl (OwnV.nil _ _ _ _) (Q2 _ _)
  ·rw[Ek7 hg (by omega)]
   have hd:((q:Int)==(s.size:Int))=true:=by rw[beq_iff_eq];omega
   clear hg
   go_enter Tryz.func246,Tryz.ntmps246
   go_wp2_with(go_at_call 245;(with_reducible refine HG.out.mono ?_);rintro e w' ⟨rfl,rfl⟩)
   go_ret3
   exact RetG3.mk rfl (OwnV.nil _ _ _ _) (Q2 _ _)
 ·rw[getB_e hg he]
  have HG:=Hd (Cs8 s p w Ar hg he)
  have hd:((e:Int)!=0)=true:=by simp;omega
  clear hg he
  go_enter Tryz.func246,Tryz.ntmps246
  go_wp2_with(go_at_call 245;(with_reducible refine HG.out.mono ?_);rintro e w' ⟨rfl,rfl⟩)
  go_ret3
  exact RetG3.mk rfl (OwnV.nil _ _ _ _) (Q2 _ _)
end
end Go.P
namespace Go.VB
open RowKit
theorem Br1 {α:Type} {f:α->Value} {P:Program} {w:World} {Aq:Array Oper} {Ah:List Oper} {o:Oper} {a:Act} {Q:Exit->Act->World->Prop} (Aj:∀x:α,(f x).oneCell'=true) (z:Value) (Ba:o.guard=none) (s x:Operand) (t:TypeId)
   (ho:o.op=.call { callee:=.builtin .append,args:=#[s,x],argTypes:=#[t,t] })
   (base:Nat) (e:TypeId) (Ae:Nat) (ht:P.underlying t=some (.slice e)) (Ad:(P.info? e).map (fun i=>(i.zero,i.size,i.bytes))=some (some z,1,Ae))
   (g c:Nat) (l:List α) (hs:a.eval s=.slice (some ⟨g,0,none⟩) l.length c) (Ak:RowV f e w base g c l) (B:Nat) (vx:Value) (y:α) (hx:a.eval x=vx) (hr:RdV f w B vx [y])
   (Aa:l.length+1<=c)
   (h:∀w',RowV f e w' base g c (l++[y])->Below base w w'->w.grownBy w' (some g)->wpList P Aq Q Ah (a.put o.dst (.slice (some ⟨g,0,none⟩) (l.length+1) c)) w'):wpList P Aq Q (o::Ah) a w:=by
 obtain⟨i,hi,hz,Ai,Bd⟩:=info_parts Ad
 obtain⟨A,cx,rfl,hc,hm,Ag⟩:=hr
 obtain⟨ad,rfl,_,Au⟩:=Ag 0 y rfl
 have Ac:w.ownsRow base e 1 (.slice (some ⟨g,0,none⟩) l.length c) l.length (l.map f):=Ak
 rcases Ac.2 with⟨h1,_⟩ | ⟨g',c',Ab,h1,Ap,hg,Bc,As,Ay,Af⟩
 ·cases h1
 cases h1
 have An:Ab.size=c:=by simpa using Ay
 have Az:Ab.toList.take l.length=l.map f:=by simpa using Af
 have Be:(l.map f).length=l.length:=List.length_map _
 have Al:=run_append_room (P:=P) w t o.type e i ht hi g l.length c Ab hg ad 1 cx [f y] (by rw[Ai];rfl)
  (fun j u hj=>by
   obtain⟨Ao,he⟩:=List.getElem?_eq_some_iff.1 hj
   have Aw:j=0:=by simp at Ao;exact Ao
   subst Aw
   rw[Au];simpa using he)
  (fun u hu=>by rw[List.mem_singleton.1 hu];exact Aj y) Aa (by rw[Ai,An];simp;omega)
 have Ar:w.grownBy (w.setRow g (Ab.toList.take (l.length*i.size)++[f y]++Ab.toList.drop (l.length*i.size+[f y].length)).toArray) (some g):=⟨rfl,rfl,rfl,by simp,fun k _ hk=>setRow_other w g k _ (fun e=>hk (by rw[e]))⟩
 have Bb:=(Array.getElem?_eq_some_iff.1 hg).1
 refine wpList_plain Ba fun K hK=>?_
 unfold Oper.wp execOp
 simp only[ho,resolve,invoke,builtin,Sem.run_bind,Sem.run_pure,Result.andThen_ok,List.map_toArray,List.map_cons,List.map_nil,hs,hx]
 have Ax:([y].length:Nat)=1:=rfl
 rw[Ax,Al]
 refine hK _ _ (h _ ?_ ((Q2 _ _).grown Ar (by omega) (fun b hb=>by rw[←Option.some.inj hb];exact Ap)) Ar)
 refine⟨by simp,.inr ⟨g,c,_,by rw[Q5],Ap,setRow_heap w g Ab _ e _ hg,by rw[Q5];exact Aa,As,?_,?_⟩⟩
 ·simp only[List.size_toArray,Q5,List.length_take,List.length_drop,Array.length_toList,Ai,Q6,Q8]
  omega
 ·rw[Ai,Nat.mul_one,Nat.mul_one,Az,List.map_append]
  have e1:(l++[y]).length=(l.map f++[f y]).length:=by simp
  rw[e1]
  exact List.take_left
end Go.VB
namespace Go.DL
open RowKit VB VarM BP RL
def Fg9(e:TypeId)(d:List Int)(q c:Nat)(w:World):Ending->World->Prop:=fun en w'=>
 ∃v,en=.returned (.tuple #[v,.int .i64 (q:Int),.int .i64 (c:Int)])/\OwnV (Value.int .i64) e w' w.heap.size v d/\Below w.heap.size w w'
theorem Cb8{s:ByteArray}{p:Int}{c:Nat}{d:List Int}{q:Nat}(h:getB s p c=(d,q,0)):d.length=c:=by
 unfold getB at h
 repeat' split at h
 all_goals first
  | (have h2:=congrArg (fun x=>x.2.2) h;simp only at h2;omega)
  | (have h1:=congrArg (fun x=>x.1) h;simp only at h1;rw[←h1,List.length_map,Aj5])
theorem Dr6{L:List Int}{x:Int}(h:L[L.length-1]?=some x):L.getLastD 0=x:=by rw[List.getLastD_eq_getLast?,List.getLast?_eq_getElem?,h];rfl
end Go.DL
namespace Go.P
open RowKit VB VarM BP RL DL
theorem Bj5(s:ByteArray)(p:Int)(c:Nat)(w:World)(hs:s.size<=140737488351232)(h1:1<=c)(Aa:c<=32){d:List Int}{q e:Nat}(hg:getB s p c=(d,q,e)):
   Calls Tryz.prog 246 #[.string s,.int .i64 p,.int .i64 (c:Int)] w (Fg9 2 d q e w):=by
 have:=Cb4 s p c w hs h1 Aa
 rw[hg] at this
 exact this
theorem Ck0(s:ByteArray)(n:Int)(w:World)(hs:s.size<=140737488351232):
   Calls Tryz.prog 224 #[.string s,.int .i64 n] w (RetVE (Value.int .i64) 2 (decX s n).1 (decX s n).2 w):=by
 by_cases hn:n<0\/4096<n
 ·rw[Em3 hn]
  rcases hn with hn | hn
  ·go_enter Tryz.func224,Tryz.ntmps224
   go_wp2
   go_ret2
   exact RetVE.mk rfl (OwnV.nil _ _ _ _) (Q2 _ _)
  ·by_cases h0:n<0
   ·omega
   ·go_enter Tryz.func224,Tryz.ntmps224
    go_wp2
    go_ret2
    exact RetVE.mk rfl (OwnV.nil _ _ _ _) (Q2 _ _)
 by_cases h0:n=0
 ·subst h0
  have HD:=Hd (Cj8 s w)
  clear hn
  generalize decX s 0=R at *
  go_enter Tryz.func224,Tryz.ntmps224
  go_wp2_with fail
  refine HD.out.mono ?_;rintro e w1 ⟨v,rfl,Bk,hb⟩
  go_wp2
  go_ret2
  exact RetVE.mk rfl Bk hb
 obtain⟨n,rfl⟩:∃k:Nat,n=k:=⟨n.toNat,by omega⟩
 have Ce:n<=4096:=by omega
 have Bu:1<=n:=by omega
 have Bv:s.size<=maxLen:=by unfold maxLen;omega
 have Bh:decide ((4096:Int)<(n:Int))=false:=Q3 (by omega)
 have Ch:((n:Int)==0)=false:=beq_eq_false_iff_ne.2 (by omega)
 clear hn
 obtain⟨a,b,e,hg⟩:∃a b e,Aa2 s 0=(a,b,e):=⟨_,_,_,rfl⟩
 by_cases he:e=0
 ·subst he
  obtain⟨p,hp⟩:∃p:Nat,b=p:=by
   obtain⟨k,m,_,h2,_,h3,_⟩:=getR_zero hg
   exact⟨k+m,by omega⟩
  subst hp
  rw[decX_go Ce (by omega) hg]
  have HG:=Hd (Cb3 s 0 w Bv hg)
  have Bw:=By6 (P:=Tryz.prog) (z:=.int .i64 0) rfl Tryz.underlying197 Tryz.infI64 n (by omega) (by unfold maxLen;omega) w
  have Ad:RowV (Value.int .i64) 2 (w.alloc (.cells (madeCells #[.int .i64 0] n) 2)) w.heap.size w.heap.size n []:=OwnV.made0 (Value.int .i64) (.int .i64 0) 2 w w.heap.size n (Q1 _) (by unfold maxLen;omega)
  have Bg:Below w.heap.size w (w.alloc (.cells (madeCells #[.int .i64 0] n) 2)):=(Q2 _ _).alloc (Q1 _) _
  clear hg h0
  generalize hW:(w.alloc (.cells (madeCells #[.int .i64 0] n) 2))=W1 at Ad Bg
  rw[hW] at Bw
  clear hW
  generalize Ak0 (a:Int)=z at *
  generalize hR:decB s (n-1) p [z]=R
  have HR:=Hd hR;clear hR
  have Bd:=Bg.size
  go_enter Tryz.func224,Tryz.ntmps224
  go_wp2_with(first
   | (go_at_call 245;(with_reducible refine HG.out.mono ?_);rintro e w' ⟨rfl,rfl⟩)
   | (at_builtin;refine Br1 (f:=Value.int .i64) (fun _=>rfl) (.int .i64 0) rfl _ _ 197 rfl w.heap.size 2 8 Tryz.underlying197 Tryz.infI64 w.heap.size n [] rfl (Ad.alloc _) _ _ z rfl (RdV.one _ _ _ _ _ (by decide) (by decide)) Bu ?_;intro w2 Aq Br _;have hb:=(Bg.alloc Bd (.cells #[.int .i64 z] 2)).trans Br;clear Ad Br Bg Bd Bw))
  go_loopw[7,9] (fun a v wr=>∃(p:Nat)(ls:List Int),a=.int .i64 p/\v=.slice (some ⟨w.heap.size,0,none⟩) ls.length n/\1<=ls.length/\ls.length<=n/\RowV (Value.int .i64) 2 wr w.heap.size w.heap.size n ls/\decB s (n-ls.length) p ls=R/\Below w.heap.size w wr) (fun _ v _=>n-lenS v)
  case atStart=>exact⟨p,[z],rfl,rfl,Q1 _,Bu,Aq,HR.out,hb⟩
  case round=>
   clear Aq hb HR HG
   obtain⟨p,ls,rfl,rfl,Ci,Cg,Ad,Bc,Ac⟩:=hrel
   have HD:=Hd Bc;clear Bc
   by_cases hlt:ls.length<n
   ·obtain⟨m,hm⟩:∃m,n=ls.length+m:=⟨n-ls.length,by omega⟩
    have Bs:(n:Int)-(ls.length:Int)=(m:Int):=by omega
    have Cj:1<=m:=by omega
    have Bt:n-ls.length=m:=by omega
    rw[Bt] at HD
    have HM:=Hd hm
    clear hm Bt
    by_cases h32:m<=32
    ·have Ap:min m 32=m:=by omega
     obtain⟨d,q,e,hg⟩:∃d q e,getB s p m=(d,q,e):=⟨_,_,_,rfl⟩
     have HC:Hid (Calls Tryz.prog 246 #[.string s,.int .i64 p,.int .i64 (m:Int)] wr (Fg9 2 d q e wr)):=Hd (Bj5 s p m wr hs (by omega) (by omega) hg)
     by_cases he:e=0
     ·subst he
      have Az:=Cb8 hg
      have Ag:=(decB_go (l:=ls) (by omega) Ap hg).symm.trans HD.out
      have HF:=Hd Ag
      clear Ag HD Ap hg
      go_wp2_with fail
      refine HC.out.mono ?_;rintro e w1 ⟨v1,rfl,Aj,Ak⟩
      rcases Aj.forms with⟨_,Bh⟩ | ⟨gd,cd,rfl,Ab⟩
      ·exfalso
       have:d.length=0:=by rw[Bh];rfl
       omega
      have Ca:=Ab.lt
      have Bx:=Ad.lt.2
      have Ah:=Ad.below Ak
      have Ai:=Ac.trans (Ak.mono Ac.size)
      have Bm:=(Ab.read)
      obtain⟨_,_,Bn,Bq,Aw,_⟩:=Bm
      cases Bn
      unfold maxLen at Aw
      have Bz:=Hd Az
      have Bo:d.length<=m/\m<=d.length:=by omega
      clear HC Aj Ak Ad Ac Az Bs
      go_wp2_with fail
      go_loopw[9,62] (fun v i wk=>∃(L:List Int)(j:Nat),v=.slice (some ⟨w.heap.size,0,none⟩) L.length n/\i=.int .i64 j/\j<=d.length/\RowV (Value.int .i64) 2 wk w.heap.size w.heap.size n L/\L=acc ls (d.take j)/\RowV (Value.int .i64) 2 wk wr.heap.size gd cd d/\Below w.heap.size w wk) (fun _ i _=>d.length-(intOf i).toNat)
      case atStart=>exact⟨ls,0,rfl,rfl,Nat.zero_le _,Ah,rfl,Ab,Ai⟩
      case round=>
       clear Ah Ab Ai
       obtain⟨L,j,rfl,rfl,hj,Aa,hL,Af,Ae⟩:=hrel
       have Bf:L.length=ls.length+j:=by
        rw[hL,acc_len,List.length_take];omega
       have Cb:L.length<=ls.length+j/\ls.length+j<=L.length:=by omega
       have HL:=Hd hL
       clear hL
       by_cases hjl:j<d.length
       ·have Ar:d[j]?=some (d[j]'hjl):=Q7 _
        have Cc:=Af.cell j _ Ar
        have Bi:=Hd (Cx3 ls Ar)
        clear Ar
        generalize d[j]'hjl=x at *
        have Ay:L[L.length-1]?=some (L[L.length-1]'(by omega)):=Q7 _
        have Cf:=Aa.cell (L.length-1) _ Ay
        have Bp:=Hd (Dr6 Ay)
        clear Ay
        generalize L[L.length-1]'_=y at *
        have By:1<=L.length:=by omega
        have Bl:L.length+1<=n:=by have:=HM.out;omega
        have As:=Ae.size
        clear Bf
        go_wp2_with(at_builtin;refine Br1 (f:=Value.int .i64) (fun _=>rfl) (.int .i64 0) rfl _ _ 197 rfl w.heap.size 2 8 Tryz.underlying197 Tryz.infI64 w.heap.size n L rfl (Aa.alloc _) _ _ (wrap64 (y+x)) rfl (RdV.one _ _ _ _ _ (by decide) (by decide)) Bl ?_;intro w3 Al Bb Ba;have hrowd3:=(Af.alloc (.cells #[.int .i64 (wrap64 (y+x))] 2)).keep Ba (fun e=>by have:=Option.some.inj e;omega);have hbel3:=(Ae.alloc As (.cells #[.int .i64 (wrap64 (y+x))] 2)).trans Bb;clear Aa Af Bb Ba)
        go_roundw
        case rel=>exact⟨L++[wrap64 (y+x)],j+1,by rw[Q5];rfl,by go_num,hjl,Al,by rw[Bi.out,←HL.out,Bp.out],hrowd3,hbel3⟩
        case measure=>simp[intOf]<;>omega
       ·have Ax:L=acc ls d:=by rw[HL.out,List.take_of_length_le (by omega)]
        have Be:m-m=n-L.length:=by have:=HM.out;omega
        have Cd:=Hd Ax
        have Ag:decB s (n-L.length) q L=R:=by rw[←Be,Ax];exact HF.out
        have Bj:=Hd Ag
        have An:1<=L.length/\L.length<=n:=by have:=HM.out;omega
        clear Bf Ax Be Ag
        go_wp2_with fail
        go_roundw
        case rel=>exact⟨q,L,rfl,rfl,An.1,An.2,Aa,Bj.out,Ae⟩
        case measure=>simp only[lenS];have:=HM.out;omega
     ·have hR:=HD.out
      rw[decB_e (by omega) Ap hg he] at hR
      have Au:=Hd hR
      have hd:((e:Int)!=0)=true:=by simp;omega
      clear hR hg Ap he
      go_wp2_with fail
      refine HC.out.mono ?_;rintro e w1 ⟨v1,rfl,_,Ak⟩
      have Ao:=Ac.trans (Ak.mono Ac.size)
      clear HC Ak
      go_wp2
      go_ret2
      rw[←Au.out]
      exact RetVE.mk rfl (OwnV.nil _ _ _ _) Ao
    ·have Ap:min m 32=32:=by omega
     obtain⟨d,q,e,hg⟩:∃d q e,getB s p 32=(d,q,e):=⟨_,_,_,rfl⟩
     have HC:Hid (Calls Tryz.prog 246 #[.string s,.int .i64 p,.int .i64 32] wr (Fg9 2 d q e wr)):=Hd (Bj5 s p 32 wr hs (by omega) (by omega) hg)
     by_cases he:e=0
     ·subst he
      have Az:=Cb8 hg
      have Ag:=(decB_go (l:=ls) (by omega) Ap hg).symm.trans HD.out
      have HF:=Hd Ag
      clear Ag HD Ap hg
      go_wp2_with fail
      refine HC.out.mono ?_;rintro e w1 ⟨v1,rfl,Aj,Ak⟩
      rcases Aj.forms with⟨_,Bh⟩ | ⟨gd,cd,rfl,Ab⟩
      ·exfalso
       have:d.length=0:=by rw[Bh];rfl
       omega
      have Ca:=Ab.lt
      have Bx:=Ad.lt.2
      have Ah:=Ad.below Ak
      have Ai:=Ac.trans (Ak.mono Ac.size)
      have Bm:=(Ab.read)
      obtain⟨_,_,Bn,Bq,Aw,_⟩:=Bm
      cases Bn
      unfold maxLen at Aw
      have Bz:=Hd Az
      have Bo:d.length<=32/\32<=d.length:=by omega
      clear HC Aj Ak Ad Ac Az Bs
      go_wp2_with fail
      go_loopw[9,62] (fun v i wk=>∃(L:List Int)(j:Nat),v=.slice (some ⟨w.heap.size,0,none⟩) L.length n/\i=.int .i64 j/\j<=d.length/\RowV (Value.int .i64) 2 wk w.heap.size w.heap.size n L/\L=acc ls (d.take j)/\RowV (Value.int .i64) 2 wk wr.heap.size gd cd d/\Below w.heap.size w wk) (fun _ i _=>d.length-(intOf i).toNat)
      case atStart=>exact⟨ls,0,rfl,rfl,Nat.zero_le _,Ah,rfl,Ab,Ai⟩
      case round=>
       clear Ah Ab Ai
       obtain⟨L,j,rfl,rfl,hj,Aa,hL,Af,Ae⟩:=hrel
       have Bf:L.length=ls.length+j:=by
        rw[hL,acc_len,List.length_take];omega
       have Cb:L.length<=ls.length+j/\ls.length+j<=L.length:=by omega
       have HL:=Hd hL
       clear hL
       by_cases hjl:j<d.length
       ·have Ar:d[j]?=some (d[j]'hjl):=Q7 _
        have Cc:=Af.cell j _ Ar
        have Bi:=Hd (Cx3 ls Ar)
        clear Ar
        generalize d[j]'hjl=x at *
        have Ay:L[L.length-1]?=some (L[L.length-1]'(by omega)):=Q7 _
        have Cf:=Aa.cell (L.length-1) _ Ay
        have Bp:=Hd (Dr6 Ay)
        clear Ay
        generalize L[L.length-1]'_=y at *
        have By:1<=L.length:=by omega
        have Bl:L.length+1<=n:=by have:=HM.out;omega
        have As:=Ae.size
        clear Bf
        go_wp2_with(at_builtin;refine Br1 (f:=Value.int .i64) (fun _=>rfl) (.int .i64 0) rfl _ _ 197 rfl w.heap.size 2 8 Tryz.underlying197 Tryz.infI64 w.heap.size n L rfl (Aa.alloc _) _ _ (wrap64 (y+x)) rfl (RdV.one _ _ _ _ _ (by decide) (by decide)) Bl ?_;intro w3 Al Bb Ba;have hrowd3:=(Af.alloc (.cells #[.int .i64 (wrap64 (y+x))] 2)).keep Ba (fun e=>by have:=Option.some.inj e;omega);have hbel3:=(Ae.alloc As (.cells #[.int .i64 (wrap64 (y+x))] 2)).trans Bb;clear Aa Af Bb Ba)
        go_roundw
        case rel=>exact⟨L++[wrap64 (y+x)],j+1,by rw[Q5];rfl,by go_num,hjl,Al,by rw[Bi.out,←HL.out,Bp.out],hrowd3,hbel3⟩
        case measure=>simp[intOf]<;>omega
       ·have Ax:L=acc ls d:=by rw[HL.out,List.take_of_length_le (by omega)]
        have Be:m-32=n-L.length:=by have:=HM.out;omega
        have Cd:=Hd Ax
        have Ag:decB s (n-L.length) q L=R:=by rw[←Be,Ax];exact HF.out
        have Bj:=Hd Ag
        have An:1<=L.length/\L.length<=n:=by have:=HM.out;omega
        clear Bf Ax Be Ag
        go_wp2_with fail
        go_roundw
        case rel=>exact⟨q,L,rfl,rfl,An.1,An.2,Aa,Bj.out,Ae⟩
        case measure=>simp only[lenS];have:=HM.out;omega
     ·have hR:=HD.out
      rw[decB_e (by omega) Ap hg he] at hR
      have Au:=Hd hR
      have hd:((e:Int)!=0)=true:=by simp;omega
      clear hR hg Ap he
      go_wp2_with fail
      refine HC.out.mono ?_;rintro e w1 ⟨v1,rfl,_,Ak⟩
      have Ao:=Ac.trans (Ak.mono Ac.size)
      clear HC Ak
      go_wp2
      go_ret2
      rw[←Au.out]
      exact RetVE.mk rfl (OwnV.nil _ _ _ _) Ao
   ·by_cases hps:p<s.size
    ·have hR:=HD.out
     rw[decB_left (by omega) (by omega)] at hR
     have Au:=Hd hR;clear hR
     go_wp2
     go_ret2
     rw[←Au.out]
     exact RetVE.mk rfl (OwnV.nil _ _ _ _) Ac
    ·have hR:=HD.out
     rw[decB_done (by omega) (by omega)] at hR
     have Au:=Hd hR;clear hR
     go_wp2
     go_ret2
     rw[←Au.out]
     exact RetVE.mk rfl Ad.own Ac
 ·rw[decX_e (by omega) (by omega) hg he]
  have HG:=Hd (Cs8 s 0 w Bv hg he)
  have hd:((e:Int)!=0)=true:=by simp;omega
  clear hg he h0
  go_enter Tryz.func224,Tryz.ntmps224
  go_wp2_with(go_at_call 245;(with_reducible refine HG.out.mono ?_);rintro e w' ⟨rfl,rfl⟩)
  go_ret2
  exact RetVE.mk rfl (OwnV.nil _ _ _ _) (Q2 _ _)
end Go.P

namespace Go.CK
open RowKit VB VarM BP RL VS
def Be4(l:List Vl):List Int:=l.map Vl.n
def Bx6(l:List Vl):List ByteArray:=l.map Vl.s
def Ae3(l:List Vl):List Bool:=l.map Vl.nu
def Ab9(l:List Vl):List Vl:=l.filter fun v=>!v.nu
theorem Ao0(l:List Vl):(Ab9 l).length<=l.length:=List.length_filter_le _ _
theorem Dk6{l:List Vl}{j:Nat}{x:Vl}(h:l[j]?=some x):Ab9 (l.take (j+1))=if x.nu then Ab9 (l.take j) else Ab9 (l.take j)++[x]:=by
 unfold Ab9
 rw[List.take_add_one,h,List.filter_append]
 cases hx:x.nu<;>simp[hx]
def one(typ:Int)(v:Vl):List UInt8:=if typ=3 then Aa4 v.s.size++v.s.data.toList else Aa4 (Ai4 v.n).toNat
def Ag8(typ:Int)(l:List Vl):List UInt8:=l.flatMap (one typ)
theorem Bz6(typ:Int):Ag8 typ []=[]:=rfl
theorem Bn9(typ:Int)(x:Vl)(l:List Vl):Ag8 typ (x::l)=one typ x++Ag8 typ l:=rfl
theorem Da5{typ:Int}{l:List Vl}{j:Nat}{x:Vl}(h:l[j]?=some x):Ag8 typ (l.take (j+1))=Ag8 typ (l.take j)++one typ x:=by
 unfold Ag8
 rw[List.take_add_one,h,List.flatMap_append];simp
def Av6(typ codec:Int)(l:List Vl):List UInt8:=
 if codec=2 then As6 (Be4 l) else if codec=3 then Go.DI.encD (Bx6 l) else if codec=4 then Go.DL.encX (Be4 l) else Ag8 typ l
def uses(typ codec:Int):Bool:=if typ=3 then decide (codec=1\/codec=3) else decide (codec=1\/codec=2\/codec=4)
def Ad8(c:Nat):List UInt8:=[UInt8.ofNat (c%256),UInt8.ofNat (c/256%256),UInt8.ofNat (c/65536%256),UInt8.ofNat (c/16777216%256)]
def Ap1(s:List UInt8):Nat:=Go.CR.sumL Go.CR.tab s
def bodyB(typ codec:Int)(l:List Vl):List UInt8:=
 [UInt8.ofNat codec.toNat]++Aa4 l.length++Aa4 (l.length-(Ab9 l).length)++(if(Ab9 l).length<l.length then(Go.NU.bmp (Ae3 l)).data.toList else[])++Av6 typ codec (Ab9 l)
def Aa7(typ codec:Int)(l:List Vl):List UInt8:=bodyB typ codec l++Ad8 (Ap1 (bodyB typ codec l))
def Ae5(typ:Int)(s:ByteArray):Nat->Int->List Vl->Option (List Vl)
 | 0,p,acc=>if p=s.size then some acc else none
 | m+1,p,acc=>
   if(Aa2 s p).2.2≠0 then none
   else if typ≠3 then Ae5 typ s m (Aa2 s p).2.1 (acc++[⟨false,Ak0 (Aa2 s p).1,⟨#[]⟩⟩])
   else if(s.size:Int)-(Aa2 s p).2.1<(Aa2 s p).1 then none
   else Ae5 typ s m ((Aa2 s p).2.1+(Aa2 s p).1) (acc++[⟨false,0,s.extract (Aa2 s p).2.1.toNat ((Aa2 s p).2.1.toNat+(Aa2 s p).1)⟩])
section
variable {typ:Int} {s:ByteArray} {m:Nat} {p:Int} {acc:List Vl}
theorem Bo0(h:p=s.size):Ae5 typ s 0 p acc=some acc:=by unfold Ae5;rw[if_pos h]
theorem Cg9(h:¬p=s.size):Ae5 typ s 0 p acc=none:=by unfold Ae5;rw[if_neg h]
theorem Da6{a:Nat}{b:Int}(hg:Aa2 s p=(a,b,0))(ht:typ≠3):Ae5 typ s (m+1) p acc=Ae5 typ s m b (acc++[⟨false,Ak0 a,⟨#[]⟩⟩]):=by rw[Ae5,hg,if_neg (by simp),if_pos ht]
theorem Cg8{a b:Nat}(hg:Aa2 s p=(a,(b:Int),0))(ht:typ=3)(h:b+a<=s.size):Ae5 typ s (m+1) p acc=Ae5 typ s m ((b+a:Nat):Int) (acc++[⟨false,0,s.extract b (b+a)⟩]):=by
 rw[Ae5,hg,if_neg (by simp),if_neg (by simp[ht]),if_neg (by simp only;omega)]
 simp
end
def Bh7(typ:Int)(x:Vl):Prop:=x.nu=false/\(if typ=3 then x.n=0/\x.s.size<18446744073709551616 else x.s=⟨#[]⟩ /\ -9223372036854775808<=x.n/\x.n<=9223372036854775807)
theorem Bs9{typ:Int}{x:Vl}(h:Bh7 typ x)(ht:typ≠3):x=⟨false,x.n,⟨#[]⟩⟩ /\ -9223372036854775808<=x.n/\x.n<=9223372036854775807:=by
 obtain⟨nu,n,s⟩:=x
 unfold Bh7 at h
 rw[if_neg ht] at h
 simp only at h
 obtain⟨rfl,rfl,h2⟩:=h
 exact⟨rfl,h2⟩
theorem Bh6{typ:Int}{x:Vl}(h:Bh7 typ x)(ht:typ=3):x=⟨false,0,x.s⟩/\x.s.size<18446744073709551616:=by
 obtain⟨nu,n,s⟩:=x
 unfold Bh7 at h
 rw[if_pos ht] at h
 simp only at h
 obtain⟨rfl,rfl,h2⟩:=h
 exact⟨rfl,h2⟩
theorem Da7(typ:Int)(s:ByteArray):∀(l:List Vl)(Aa:List UInt8)(acc:List Vl),(∀x∈l,Bh7 typ x)->s.data.toList=Aa++Ag8 typ l->Ae5 typ s l.length (Aa.length:Nat) acc=some (acc++l):=by
 intro l
 induction l with
 | nil=>
   intro Aa acc _ hs
   rw[Bz6,List.append_nil] at hs
   rw[show([]:List Vl).length=0 from rfl,Bo0 (by rw[←Aa1,hs]),List.append_nil]
 | cons x l ih=>
   intro Aa acc hp hs
   have hx:=hp x (List.mem_cons_self ..)
   have Ae:=fun y hy=>hp y (List.mem_cons_of_mem _ hy)
   rw[Bn9] at hs
   by_cases ht:typ=3
   ·obtain⟨Ad,Ab⟩:=Bh6 hx ht
    have ho:one typ x=Aa4 x.s.size++x.s.data.toList:=by unfold one;rw[if_pos ht]
    rw[ho] at hs
    have hg:=Aj4 (s:=s) (a:=Aa) (r:=x.s.data.toList++Ag8 typ l) Ab (by rw[hs];simp only[List.append_assoc])
    have Ag:s.size=(Aa++Aa4 x.s.size).length+x.s.size+(Ag8 typ l).length:=by
     rw[←Aa1,hs];simp only[Q5,Aa1];omega
    have Af:s.extract (Aa++Aa4 x.s.size).length ((Aa++Aa4 x.s.size).length+x.s.size)=x.s:=by
     rw[Aa8,hs,show Aa++(Aa4 x.s.size++x.s.data.toList++Ag8 typ l)=(Aa++Aa4 x.s.size)++(x.s.data.toList++Ag8 typ l) from by simp only[List.append_assoc],List.drop_left,
      show(Aa++Aa4 x.s.size).length+x.s.size-(Aa++Aa4 x.s.size).length=x.s.data.toList.length from by rw[Aa1];omega,List.take_left,Aw5]
    have hk:=ih (Aa++Aa4 x.s.size++x.s.data.toList) (acc++[x]) Ae (by rw[hs];simp only[List.append_assoc])
    rw[Q6,Cg8 hg ht (by omega),Af,←Ad]
    have Ac:(Aa++Aa4 x.s.size++x.s.data.toList).length=(Aa++Aa4 x.s.size).length+x.s.size:=by rw[Q5,Aa1]
    rw[Ac] at hk
    rw[hk,List.append_assoc];rfl
   ·obtain⟨Ad,Ab⟩:=Bs9 hx ht
    have hz:=Av7 Ab.1 Ab.2
    have ho:one typ x=Aa4 (Ai4 x.n).toNat:=by unfold one;rw[if_neg ht]
    rw[ho] at hs
    have hg:=Aj4 (s:=s) (a:=Aa) (r:=Ag8 typ l) (zig_lt Ab) (by rw[hs];simp only[List.append_assoc])
    have ez:Ak0 (((Ai4 x.n).toNat:Nat):Int)=x.n:=by rw[Int.toNat_of_nonneg hz.1,Bf8]
    have hk:=ih (Aa++Aa4 (Ai4 x.n).toNat) (acc++[x]) Ae (by rw[hs];simp only[List.append_assoc])
    rw[Q6,Da6 hg ht,ez,←Ad,hk,List.append_assoc];rfl
def Bl8(typ codec:Int)(s:ByteArray)(n:Nat):Option (List Vl):=
 if codec=1 then Ae5 typ s n 0 []
 else if codec=3 then(if(Go.DI.decD s n).2=0 then some ((Go.DI.decD s n).1.map fun x=>⟨false,0,x⟩) else none)
 else if codec=4 then(if(Go.DL.decX s n).2=0 then some ((Go.DL.decX s n).1.map fun x=>⟨false,x,⟨#[]⟩⟩) else none)
 else(if(Be9 s n).2=0 then some ((Be9 s n).1.map fun x=>⟨false,x,⟨#[]⟩⟩) else none)
theorem Do6(typ:Int)(l:List Vl):Av6 typ 1 l=Ag8 typ l:=by unfold Av6;rw[if_neg (by decide),if_neg (by decide),if_neg (by decide)]
theorem Es7(typ:Int)(l:List Vl):Av6 typ 2 l=As6 (Be4 l):=by unfold Av6;rw[if_pos rfl]
theorem Es6(typ:Int)(l:List Vl):Av6 typ 3 l=Go.DI.encD (Bx6 l):=by unfold Av6;rw[if_neg (by decide),if_pos rfl]
theorem Es5(typ:Int)(l:List Vl):Av6 typ 4 l=Go.DL.encX (Be4 l):=by unfold Av6;rw[if_neg (by decide),if_neg (by decide),if_pos rfl]
section
variable (typ:Int) (s:ByteArray) (n:Nat)
theorem Es4:Bl8 typ 1 s n=Ae5 typ s n 0 []:=by unfold Bl8;rw[if_pos rfl]
theorem Es3:Bl8 typ 2 s n=if(Be9 s n).2=0 then some ((Be9 s n).1.map fun x=>(⟨false,x,⟨#[]⟩⟩:Vl)) else none:=by
 generalize hR:Be9 s n=R
 unfold Bl8;rw[hR,if_neg (by decide),if_neg (by decide),if_neg (by decide)]
theorem Es2:Bl8 typ 3 s n=if(Go.DI.decD s n).2=0 then some ((Go.DI.decD s n).1.map fun x=>(⟨false,0,x⟩:Vl)) else none:=by
 unfold Bl8
 rw[if_neg (show ¬(3:Int)=1 by decide),if_pos (show(3:Int)=3 from rfl)]
theorem Es1:Bl8 typ 4 s n=if(Go.DL.decX s n).2=0 then some ((Go.DL.decX s n).1.map fun x=>(⟨false,x,⟨#[]⟩⟩:Vl)) else none:=by
 unfold Bl8
 rw[if_neg (show ¬(4:Int)=1 by decide),if_neg (show ¬(4:Int)=3 by decide),if_pos (show(4:Int)=4 from rfl)]
end
theorem Ca2{typ:Int}{l:List Vl}(h:∀x∈l,Bh7 typ x)(ht:typ≠3):(Be4 l).map (fun x=>(⟨false,x,⟨#[]⟩⟩:Vl))=l:=by
 unfold Be4
 rw[List.map_map]
 refine(List.map_congr_left fun x hx=>?_).trans (List.map_id l)
 exact(Bs9 (h x hx) ht).1.symm
theorem Di6{typ:Int}{l:List Vl}(h:∀x∈l,Bh7 typ x)(ht:typ=3):(Bx6 l).map (fun x=>(⟨false,0,x⟩:Vl))=l:=by
 unfold Bx6
 rw[List.map_map]
 refine(List.map_congr_left fun x hx=>?_).trans (List.map_id l)
 exact(Bh6 (h x hx) ht).1.symm
theorem Eh9{typ:Int}{l:List Vl}(h:∀x∈l,Bh7 typ x)(ht:typ≠3):I64 (Be4 l):=by
 intro z hz
 simp only[Be4,List.mem_map] at hz
 obtain⟨x,hx,rfl⟩:=hz
 exact(Bs9 (h x hx) ht).2
theorem Eh2{typ codec:Int}{l:List Vl}(hu:uses typ codec=true)(hl:l.length<=4096)(h:∀x∈l,Bh7 typ x):Bl8 typ codec (str (Av6 typ codec l)) l.length=some l:=by
 have hn:(Be4 l).length=l.length:=List.length_map _
 have Aa:(Bx6 l).length=l.length:=List.length_map _
 by_cases h1:codec=1
 ·subst h1
  rw[Do6,Es4]
  have:=Da7 typ (str (Ag8 typ l)) l [] [] h (by rw[Ab7];rfl)
  exact this
 ·by_cases ht:typ=3
  ·have h3:codec=3:=by
     unfold uses at hu
     rw[if_pos ht,decide_eq_true_iff] at hu
     omega
   subst h3
   rw[Es6,Es2]
   have hd:=Go.DI.decD_enc (l:=Bx6 l) (by rw[Aa];exact hl) (fun w hw=>by
    simp only[Bx6,List.mem_map] at hw
    obtain⟨x,hx,rfl⟩:=hw
    exact(Bh6 (h x hx) ht).2)
   rw[Aa] at hd
   rw[hd,if_pos rfl,Di6 h ht]
  ·have Ab:codec=2\/codec=4:=by
     unfold uses at hu
     rw[if_neg ht,decide_eq_true_iff] at hu
     omega
   have hi:=Eh9 h ht
   rcases Ab with h2 | h4
   ·subst h2
    rw[Es7,Es3]
    have hd:=Em6 (l:=Be4 l) (by rw[hn];exact hl) hi
    rw[hn] at hd
    rw[hd,if_pos rfl,Ca2 h ht]
   ·subst h4
    rw[Es5,Es1]
    have hd:=Go.DL.decX_enc (l:=Be4 l) (by rw[hn];exact hl) hi
    rw[hn] at hd
    rw[hd,if_pos rfl,Ca2 h ht]
def Ai5:List Bool->List Vl->List Vl
 | [],_=>[]
 | true::b,l=>⟨true,0,⟨#[]⟩⟩::Ai5 b l
 | false::b,[]=>vl0::Ai5 b []
 | false::b,x::l=>x::Ai5 b l
theorem Bm8:∀l:List Vl,(∀x∈l,x.nu=true->x=⟨true,0,⟨#[]⟩⟩)->Ai5 (Ae3 l) (Ab9 l)=l
 | [],_=>rfl
 | x::l,h=>by
   have ih:=Bm8 l (fun y hy=>h y (List.mem_cons_of_mem _ hy))
   cases hx:x.nu with
   | true=>
     have e1:Ae3 (x::l)=true::Ae3 l:=by unfold Ae3;rw[List.map_cons,hx]
     have e2:Ab9 (x::l)=Ab9 l:=by unfold Ab9;rw[List.filter_cons,hx];rfl
     rw[e1,e2,Ai5,ih,←h x (List.mem_cons_self ..) hx]
   | false=>
     have e1:Ae3 (x::l)=false::Ae3 l:=by unfold Ae3;rw[List.map_cons,hx]
     have e2:Ab9 (x::l)=x::Ab9 l:=by unfold Ab9;rw[List.filter_cons,hx];rfl
     rw[e1,e2,Ai5,ih]
end Go.CK
namespace Go.CK
open RowKit VB VarM BP RL VS VL
def fin(typ:Int)(nu:Bool)(b:List Bool)(l:List Vl):Option (List Vl):=if ∀x∈Ai5 b l,Ae6 typ nu x=0 then some (Ai5 b l) else none
def Cy1(typ:Int)(nu:Bool)(codec:Int)(s:ByteArray)(n k p:Nat):Option (List Vl):=
 if k=0 then(Bl8 typ codec (s.extract p s.size) n).bind (fin typ nu (List.replicate n false))
 else if s.size<p+(n+7)/8 then none
 else if(Go.NU.upk (s.extract p (p+(n+7)/8)) n).2≠0\/Go.NU.ones (num (s.extract p (p+(n+7)/8))) (8*((n+7)/8))≠k then none
 else(Bl8 typ codec (s.extract (p+(n+7)/8) s.size) (n-k)).bind (fin typ nu (Go.NU.upk (s.extract p (p+(n+7)/8)) n).1)
def Ea6(typ:Int)(nu:Bool)(s:ByteArray):Option (List Vl):=
 if(Aa2 s 1).2.2≠0\/4096<(Aa2 s 1).1\/uses typ (bN s 0:Nat)=false then none
 else if(Aa2 s (Aa2 s 1).2.1).2.2≠0\/(Aa2 s 1).1<(Aa2 s (Aa2 s 1).2.1).1 then none
 else Cy1 typ nu (bN s 0:Nat) s (Aa2 s 1).1 (Aa2 s (Aa2 s 1).2.1).1 (Aa2 s (Aa2 s 1).2.1).2.1.toNat
def Ac6(s:ByteArray)(p:Nat):Nat:=bN s p+256*bN s (p+1)+65536*bN s (p+2)+16777216*bN s (p+3)
def Ac0(s:ByteArray):Nat:=if s.size<5 then 10 else if Ac6 s (s.size-4)≠Ap1 (s.extract 0 (s.size-4)).data.toList then 9 else 0
def At7(typ:Int)(nu:Bool)(s:ByteArray):List Vl×Nat:=
 if okT typ=false then([],1) else if Ac0 s≠0 then([],Ac0 s) else
 match Ea6 typ nu (s.extract 0 (s.size-4)) with
 | some l=>(l,0)
 | none=>([],2)
def Dd9(typ:Int)(nu:Bool)(l:List Vl):Nat:=
 if okT typ=false then 1 else if 4096<l.length then 7 else match l.find? fun x=>Ae6 typ nu x !=0 with
 | some x=>Ae6 typ nu x
 | none=>0
def Bb5(typ:Int)(l:List Vl):List UInt8:=
 if typ=3 then(if(Aa7 typ 3 l).length<(Aa7 typ 1 l).length then Aa7 typ 3 l else Aa7 typ 1 l)
 else if(Aa7 typ 2 l).length<(Aa7 typ 1 l).length then(if(Aa7 typ 4 l).length<(Aa7 typ 2 l).length then Aa7 typ 4 l else Aa7 typ 2 l)
 else(if(Aa7 typ 4 l).length<(Aa7 typ 1 l).length then Aa7 typ 4 l else Aa7 typ 1 l)
theorem Aq8(s:List UInt8):Ap1 s<4294967296:=Go.CR.sumL_lt (fun x hx=>by
 have:∀x∈Go.CR.tab,x<4294967296:=by decide +kernel
 exact this x hx) s
theorem Aj7{a b:List UInt8}{i:Nat}(k:Nat)(hk:k=a.length+i):bN (str (a++b)) k=(b.getD i 0).toNat:=by
 subst hk
 rw[Cx0,List.getD_eq_getElem?_getD,List.getElem?_append_right (by omega),Nat.add_sub_cancel_left,List.getD_eq_getElem?_getD]
theorem Aq3(n:Nat):(UInt8.ofNat (n%256)).toNat=n%256:=by rw[UInt8.toNat_ofNat'];omega
theorem Au4(b:List UInt8)(hb:1<=b.length):Ac0 (str (b++Ad8 (Ap1 b)))=0:=by
 have hl:(Ad8 (Ap1 b)).length=4:=rfl
 have Aa:(str (b++Ad8 (Ap1 b))).size=b.length+4:=by rw[Aa3,Q5,hl]
 have hc:=Aq8 b
 have hx:(str (b++Ad8 (Ap1 b))).extract 0 (b.length+4-4)=str b:=by
  rw[Aa8,Ab7,List.drop_zero,show b.length+4-4-0=b.length from by omega,List.take_left]
 unfold Ac0
 rw[Aa,if_neg (by omega),hx,Ab7,if_neg]
 intro h
 refine h ?_
 unfold Ac6
 rw[Aj7 (i:=0) _ (by omega),Aj7 (i:=1) _ (by omega),Aj7 (i:=2) _ (by omega),Aj7 (i:=3) _ (by omega)]
 generalize Ap1 b=c at hc⊢
 have e0:((Ad8 c).getD 0 0).toNat=c%256:=Aq3 c
 have e1:((Ad8 c).getD 1 0).toNat=c/256%256:=Aq3 _
 have e2:((Ad8 c).getD 2 0).toNat=c/65536%256:=Aq3 _
 have e3:((Ad8 c).getD 3 0).toNat=c/16777216%256:=Aq3 _
 rw[e0,e1,e2,e3]
 omega
theorem Au8(a b:List UInt8):(str (a++b)).extract a.length (a++b).length=str b:=by
 rw[Aa8,Ab7,List.drop_left,List.take_of_length_le (by rw[Q5];omega)]
theorem Af3(l:List Vl):(Ae3 l).length=l.length:=List.length_map _
theorem Ao4:∀l:List Vl,(Ae3 l).count true=l.length-(Ab9 l).length
 | []=>rfl
 | x::l=>by
   have ih:=Ao4 l
   have h:=Ao0 l
   cases hx:x.nu with
   | true=>
     have e1:Ae3 (x::l)=true::Ae3 l:=by unfold Ae3;rw[List.map_cons,hx]
     have e2:Ab9 (x::l)=Ab9 l:=by unfold Ab9;rw[List.filter_cons,hx];rfl
     rw[e1,e2,List.count_cons_self,ih,Q6];omega
   | false=>
     have e1:Ae3 (x::l)=false::Ae3 l:=by unfold Ae3;rw[List.map_cons,hx]
     have e2:Ab9 (x::l)=x::Ab9 l:=by unfold Ab9;rw[List.filter_cons,hx];rfl
     rw[e1,e2,List.count_cons_of_ne (by decide),ih,Q6,Q6];omega
theorem Db7{l:List Vl}(h:(Ab9 l).length=l.length):Ae3 l=List.replicate l.length false:=by
 have hc:=Ao4 l
 rw[h,Nat.sub_self,List.count_eq_zero] at hc
 refine List.eq_replicate_iff.2 ⟨Af3 l,fun b hb=>?_⟩
 cases b with
 | false=>rfl
 | true=>exact absurd hb hc
theorem Bw3{typ:Int}{nu:Bool}{x:Vl}(hT:okT typ=true)(h:Ae6 typ nu x=0)(hx:x.nu=true):x=⟨true,0,⟨#[]⟩⟩:=by
 obtain⟨xn,n,s⟩:=x
 simp only at hx;subst hx
 unfold Ae6 at h
 simp only at h
 rw[Bk8 hT] at h
 by_cases hh:n≠0\/s.size≠0
 ·rw[if_pos hh] at h;cases h
 ·have h1:n=0:=by omega
  have h2:s.size=0:=by omega
  have h3:s=⟨#[]⟩:=ByteArray.ext (Array.ext' (List.eq_nil_of_length_eq_zero (by rw[Aa1];exact h2)))
  rw[h1,h3]
theorem Ep0{typ:Int}{nu:Bool}{x:Vl}(hT:okT typ=true)(h:Ae6 typ nu x=0)(hx:x.nu=false)(hn:-9223372036854775808<=x.n/\x.n<=9223372036854775807):Bh7 typ x:=by
 obtain⟨xn,n,s⟩:=x
 simp only at hx;subst hx
 unfold Ae6 at h
 simp only at h
 rw[Ap3 hT] at h
 by_cases hh:(typ=3/\n≠0)\/(typ≠3/\s.size≠0)
 ·rw[if_pos hh] at h;cases h
 ·rw[if_neg hh] at h
  refine⟨rfl,?_⟩
  by_cases ht:typ=3
  ·rw[if_pos ht]
   subst ht
   have hk:okP 3 n s=true:=by
    cases hk:okP 3 n s with
    | true=>rfl
    | false=>rw[hk] at h;cases h
   have Aa:s.size<=64:=by
    unfold okP at hk
    rw[if_neg (by decide),if_pos rfl] at hk
    exact of_decide_eq_true hk
   exact⟨by simp only;omega,by simp only;omega⟩
  ·rw[if_neg ht]
   have h2:s.size=0:=by omega
   exact⟨ByteArray.ext (Array.ext' (List.eq_nil_of_length_eq_zero (by rw[Aa1];exact h2))),hn⟩
end Go.CK
namespace Go.CK
open RowKit VB VarM BP RL VS VL NU
theorem Ax9(l:List Bool):∀i,i<=l.length->ones (num (bmp l)) i=(l.take i).count true
 | 0,_=>rfl
 | i+1,h=>by
   have hx:l[i]?=some (l[i]'(by omega)):=Q7 _
   rw[Ah9,Ax9 l i (by omega),Ea7 hx,List.take_add_one,hx,List.count_append]
   congr 1
   cases l[i]<;>rfl
theorem Eh5(l:List Bool):ones (num (bmp l)) (8*((l.length+7)/8))=l.count true:=by
 obtain⟨d,hd⟩:∃d,8*((l.length+7)/8)=l.length+d:=⟨8*((l.length+7)/8)-l.length,by omega⟩
 rw[hd,Ay0,Nat.div_eq_of_lt (by rw[Cl0];exact Cl1 l),Bi4,Nat.add_zero,Ax9 l _ (Q1 _),List.take_length]
theorem El3{typ:Int}{nu:Bool}{l:List Vl}(hT:okT typ=true)(hv:∀x∈l,Ae6 typ nu x=0):fin typ nu (Ae3 l) (Ab9 l)=some l:=by
 have hw:=Bm8 l (fun x hx h=>Bw3 hT (hv x hx) h)
 unfold fin
 rw[hw,if_pos hv]
theorem Dk7{typ:Int}{nu:Bool}{l:List Vl}(hT:okT typ=true)(hv:∀x∈l,Ae6 typ nu x=0)(hb:∀x∈l,-9223372036854775808<=x.n/\x.n<=9223372036854775807):∀x∈Ab9 l,Bh7 typ x:=by
 intro x hx
 obtain⟨h1,h2⟩:=List.mem_filter.1 hx
 exact Ep0 hT (hv x h1) (by simpa using h2) (hb x h1)
theorem Ee1{n:Nat}(h:n<256):(UInt8.ofNat n).toNat=n:=by rw[UInt8.toNat_ofNat'];omega
theorem Ep6{typ:Int}{codec:Nat}{nu:Bool}{l:List Vl}(hT:okT typ=true)(hu:uses typ codec=true)(hl:l.length<=4096)(hv:∀x∈l,Ae6 typ nu x=0)(hb:∀x∈l,-9223372036854775808<=x.n/\x.n<=9223372036854775807):
   Ea6 typ nu (str (bodyB typ codec l))=some l:=by
 have hc:codec<=4:=by
  unfold uses at hu
  split at hu<;>(rw[decide_eq_true_iff] at hu;omega)
 have Ar:=Ao0 l
 have An:=Dk7 hT hv hb
 have Aa:=Eh2 hu (by omega) An
 have Ab:=El3 (nu:=nu) hT hv
 obtain⟨k,hk⟩:∃k,l.length-(Ab9 l).length=k:=⟨_,rfl⟩
 obtain⟨M,hM⟩:∃M:List UInt8,(if(Ab9 l).length<l.length then(bmp (Ae3 l)).data.toList else[])=M:=⟨_,rfl⟩
 obtain⟨S,hS⟩:∃S,str (bodyB typ codec l)=S:=⟨_,rfl⟩
 have hL:S.data.toList=[UInt8.ofNat codec]++Aa4 l.length++Aa4 k++M++Av6 typ codec (Ab9 l):=by
  rw[←hS,Ab7];unfold bodyB;rw[hM,hk,Int.toNat_natCast]
 have Aq:=Aj4 (s:=S) (a:=[UInt8.ofNat codec]) (r:=Aa4 k++M++Av6 typ codec (Ab9 l)) (n:=l.length) (by omega) (by rw[hL];simp only[List.append_assoc])
 have Ao:=Aj4 (s:=S) (a:=[UInt8.ofNat codec]++Aa4 l.length) (r:=M++Av6 typ codec (Ab9 l)) (n:=k) (by omega) (by rw[hL];simp only[List.append_assoc])
 have h0:bN S 0=codec:=by
  rw[←hS];unfold bodyB
  rw[Int.toNat_natCast]
  show(UInt8.ofNat codec).toNat=codec
  exact Ee1 (by omega)
 rw[hS]
 unfold Ea6
 rw[show((1:Int))=(([UInt8.ofNat codec].length:Nat):Int) from rfl,Aq,h0,if_neg (by simp[hu];omega)]
 simp only
 rw[Ao,if_neg (by simp;omega)]
 simp only[Int.toNat_natCast]
 generalize hP:[UInt8.ofNat codec]++Aa4 l.length++Aa4 k=Q at *
 have Al:S.size=(Q++M).length+(Av6 typ codec (Ab9 l)).length:=by rw[←Aa1,hL,Q5]
 have Ah:S=str (Q++M++Av6 typ codec (Ab9 l)):=by rw[←hL,Aw5]
 unfold Cy1
 by_cases hk0:k=0
 ·have Af:(Ab9 l).length=l.length:=by omega
  have Ak:M=[]:=by rw[←hM,if_neg (by omega)]
  subst Ak
  have Aj:S.extract Q.length S.size=str (Av6 typ codec (Ab9 l)):=by
   have:=Au8 Q (Av6 typ codec (Ab9 l))
   rw[Ah,Aa3]
   simpa using this
  rw[if_pos hk0,Aj,←Af,Aa,←(show Ae3 l=List.replicate (Ab9 l).length false from by rw[Af];exact Db7 Af)]
  exact Ab
 ·have Ap:(Ab9 l).length<l.length:=by omega
  rw[if_pos Ap] at hM
  have Ae:M.length=(l.length+7)/8:=by rw[←hM,Aa1,Az2,Af3]
  have Ad:S.extract Q.length (Q.length+(l.length+7)/8)=bmp (Ae3 l):=by
   rw[Aa8,hL,List.append_assoc,List.drop_left,show Q.length+(l.length+7)/8-Q.length=M.length from by rw[Ae];omega,List.take_left,←hM,Aw5]
  have Ac:S.extract (Q.length+(l.length+7)/8) S.size=str (Av6 typ codec (Ab9 l)):=by
   have:=Au8 (Q++M) (Av6 typ codec (Ab9 l))
   rw[Q5,Ae] at this
   rw[Ah,Aa3]
   exact this
  have Ag:=Ew8 (l:=Ae3 l) (by rw[Af3];exact hl)
  rw[Af3] at Ag
  have Ai:=Eh5 (Ae3 l)
  rw[Af3,Ao4,hk] at Ai
  rw[if_neg hk0,if_neg (by rw[Al,Q5,Ae];omega),Ad,Ac,Ag,Ai,if_neg (by simp),show l.length-k=(Ab9 l).length from by omega,Aa]
  exact Ab
theorem De5{typ:Int}{codec:Nat}{nu:Bool}{l:List Vl}(hT:okT typ=true)(hu:uses typ codec=true)(hl:l.length<=4096)(hv:∀x∈l,Ae6 typ nu x=0)(hb:∀x∈l,-9223372036854775808<=x.n/\x.n<=9223372036854775807):
   At7 typ nu (str (Aa7 typ codec l))=(l,0):=by
 have h1:1<=(bodyB typ codec l).length:=by unfold bodyB;simp only[Q5,Q6,Q8];omega
 have hs:=Au4 (bodyB typ codec l) h1
 have hx:(str (Aa7 typ codec l)).extract 0 ((str (Aa7 typ codec l)).size-4)=str (bodyB typ codec l):=by
  unfold Aa7
  rw[Aa3,Q5,show(Ad8 (Ap1 (bodyB typ codec l))).length=4 from rfl,Aa8,Ab7,List.drop_zero,show(bodyB typ codec l).length+4-4-0=(bodyB typ codec l).length from by omega,List.take_left]
 unfold At7
 rw[hT,if_neg (by simp),show Ac0 (str (Aa7 typ codec l))=0 from hs,if_neg (by simp),hx,Ep6 hT hu hl hv hb]
end Go.CK
namespace Go.CK
open RowKit VB VarM BP RL VS VL
def res:Nat:=Go.CR.steps 32 4294967295
theorem steps_inj{u v:Nat}(hu:u<4294967296)(hv:v<4294967296)(h:Go.CR.steps 32 u=Go.CR.steps 32 v):u=v:=by
 have h1:=Go.CR.feed4 u 0 0 0 0
 have h2:=Go.CR.feed4 v 0 0 0 0
 have z:(0:UInt8).toNat+256*(0:UInt8).toNat+65536*(0:UInt8).toNat+16777216*(0:UInt8).toNat=0:=rfl
 rw[z,Nat.xor_zero] at h1 h2
 exact Go.CR.feed_inj [0,0,0,0] hu hv (by rw[h1,h2,h])
theorem Cm4{f:Nat}(h:f<4294967296):f ^^^ (4294967295-f)=4294967295:=by
 have h1:f<2 ^ 32:=h
 have e:4294967295-f=2 ^ 32-(f+1):=by omega
 apply Nat.eq_of_testBit_eq
 intro i
 rw[Nat.testBit_xor,e,Nat.testBit_two_pow_sub_succ h1,show(4294967295:Nat)=2 ^ 32-1 from rfl,Nat.testBit_two_pow_sub_one]
 by_cases hi:i<32
 ·simp[hi]
 ·have:f.testBit i=false:=Nat.testBit_lt_two_pow (Nat.lt_of_lt_of_le h1 (Nat.pow_le_pow_right (by decide) (by omega)))
  simp[hi,this]
theorem tab_len:Go.CR.tab.length=256:=by simp[Go.CR.tab]
theorem tab_lt:∀x∈Go.CR.tab,x<4294967296:=by decide +kernel
theorem Dk2{b:List UInt8}{x0 x1 x2 x3:UInt8}(hb:1<=b.length):Ac0 (str (b++[x0,x1,x2,x3]))=0↔Go.CR.feed Go.CR.tab 4294967295 (b++[x0,x1,x2,x3])=res:=by
 have Ab:(str (b++[x0,x1,x2,x3])).size=b.length+4:=by rw[Aa3,Q5];rfl
 have hx:(str (b++[x0,x1,x2,x3])).extract 0 (b.length+4-4)=str b:=by
  rw[Aa8,Ab7,List.drop_zero,show b.length+4-4-0=b.length from by omega,List.take_left]
 have hw:Ac6 (str (b++[x0,x1,x2,x3])) (b.length+4-4)=x0.toNat+256*x1.toNat+65536*x2.toNat+16777216*x3.toNat:=by
  unfold Ac6
  rw[Aj7 (i:=0) _ (by omega),Aj7 (i:=1) _ (by omega),Aj7 (i:=2) _ (by omega),Aj7 (i:=3) _ (by omega)]
  rfl
 have hf:=Go.CR.feed_lt tab_lt b (v:=4294967295) (by decide)
 have Aa:Ap1 b=4294967295-Go.CR.feed Go.CR.tab 4294967295 b:=Go.CR.sumL_in tab_len b
 have h0:=UInt8.toNat_lt x0;have h1:=UInt8.toNat_lt x1;have h2:=UInt8.toNat_lt x2;have h3:=UInt8.toNat_lt x3
 rw[Go.CR.feed_append,Go.CR.feed4]
 unfold Ac0
 rw[Ab,if_neg (by omega),hx,Ab7,hw,Aa]
 generalize Go.CR.feed Go.CR.tab 4294967295 b=f at hf
 obtain⟨W,hW⟩:∃W,x0.toNat+256*x1.toNat+65536*x2.toNat+16777216*x3.toNat=W:=⟨_,rfl⟩
 rw[hW]
 have Ac:W<4294967296:=by omega
 constructor
 ·intro h
  by_cases he:W=4294967295-f
  ·rw[he,Cm4 hf];rfl
  ·rw[if_pos he] at h;cases h
 ·intro h
  have hx:=steps_inj (Nat.xor_lt_two_pow (n:=32) hf Ac) (by decide) h
  have he:W=4294967295-f:=by
   have h4:=Cm4 hf
   have:f ^^^ (f ^^^ W)=f ^^^ (f ^^^ (4294967295-f)):=by rw[hx,h4]
   rw[←Nat.xor_assoc,←Nat.xor_assoc,Nat.xor_self,Nat.zero_xor,Nat.zero_xor] at this
   exact this
  rw[if_neg (by simp[he])]
theorem last4{T:List UInt8}(h:5<=T.length):∃b x0 x1 x2 x3,T=b++[x0,x1,x2,x3]/\1<=b.length:=by
 have e:=List.take_append_drop (T.length-4) T
 have hd:(T.drop (T.length-4)).length=4:=by rw[List.length_drop];omega
 match hq:T.drop (T.length-4),hd with
 | [x0,x1,x2,x3],_=>exact⟨T.take (T.length-4),x0,x1,x2,x3,by rw[←hq,e],by rw[List.length_take];omega⟩
theorem Bn2{T:List UInt8}(h:5<=T.length):Ac0 (str T)=0↔Go.CR.feed Go.CR.tab 4294967295 T=res:=by
 obtain⟨b,x0,x1,x2,x3,rfl,hb⟩:=last4 h
 exact Dk2 hb
theorem Ef0{s:ByteArray}(h:5<=s.size):Ac0 s=0\/Ac0 s=9:=by
 unfold Ac0
 rw[if_neg (by omega)]
 by_cases he:Ac6 s (s.size-4)≠Ap1 (s.extract 0 (s.size-4)).data.toList
 ·rw[if_pos he];exact .inr rfl
 ·rw[if_neg he];exact .inl rfl
theorem burst2 {T T':List UInt8} (Ab:T'.length=T.length) (h4:4<=T.length) {i:Nat} (hi:i+1<T.length) (Aa:∀m,m≠i->m≠i+1->T'[m]?=T[m]?)
   (hf:Go.CR.feed Go.CR.tab 4294967295 T=Go.CR.feed Go.CR.tab 4294967295 T'):T=T':=by
 obtain⟨j,Ac,Ad,Ae⟩:∃j,j<=i/\i+1<j+4/\j+4<=T.length:=⟨min i (T.length-4),by omega,by omega,by omega⟩
 have hp:T'.take j=T.take j:=by
  apply List.ext_getElem?
  intro m
  rw[List.getElem?_take,List.getElem?_take]
  by_cases hm:m<j
  ·rw[if_pos hm,if_pos hm];exact Aa m (by omega) (by omega)
  ·rw[if_neg hm,if_neg hm]
 have hr:T'.drop (j+4)=T.drop (j+4):=by
  apply List.ext_getElem?
  intro m
  rw[List.getElem?_drop,List.getElem?_drop]
  exact Aa _ (by omega) (by omega)
 have e1:T=T.take j++(T.drop j).take 4++T.drop (j+4):=by
  rw[List.append_assoc,←List.drop_drop,List.take_append_drop,List.take_append_drop]
 have e2:T'=T.take j++(T'.drop j).take 4++T.drop (j+4):=by
  rw[←hp,←hr,List.append_assoc,←List.drop_drop,List.take_append_drop,List.take_append_drop]
 rw[e1,e2] at hf
 have hx:=Go.CR.feed_burst (by decide) (T.take j) (T.drop (j+4)) (x:=(T.drop j).take 4) (y:=(T'.drop j).take 4) (by rw[List.length_take,List.length_drop];omega) (by rw[List.length_take,List.length_drop];omega) hf
 rw[e1,e2,hx]
theorem Bb9{T:List UInt8}(h5:5<=T.length)(hs:Ac0 (str T)=0){i:Nat}(hi:i+1<T.length){x y x' y':UInt8}(hx:T[i]?=some x)(hy:T[i+1]?=some y)(Aa:¬(x'=x/\y'=y)):
   Ac0 (str (T.take i++[x',y']++T.drop (i+2)))=9:=by
 have hl:(T.take i++[x',y']++T.drop (i+2)).length=T.length:=by
  rw[Q5,Q5,List.length_take,List.length_drop];simp;omega
 have hg:∀m,(T.take i++[x',y']++T.drop (i+2))[m]?=if m<i then T[m]? else if m=i then some x' else if m=i+1 then some y' else T[m]?:=fun m=>by
  have ht:(T.take i).length=i:=by rw[List.length_take];omega
  rw[List.append_assoc]
  by_cases h1:m<i
  ·rw[if_pos h1,List.getElem?_append_left (by omega),List.getElem?_take,if_pos h1]
  ·rw[if_neg h1,List.getElem?_append_right (by omega),ht]
   by_cases h2:m=i
   ·rw[if_pos h2,h2,Nat.sub_self];rfl
   ·rw[if_neg h2]
    by_cases h3:m=i+1
    ·rw[if_pos h3,h3,show i+1-i=1 from by omega];rfl
    ·rw[if_neg h3,List.getElem?_append_right (by simp;omega),List.getElem?_drop]
     congr 1
     simp;omega
 rcases Ef0 (s:=str (T.take i++[x',y']++T.drop (i+2))) (by rw[Aa3,hl];exact h5) with h | h
 ·exfalso
  have f1:=(Bn2 h5).1 hs
  have f2:=(Bn2 (by rw[hl];exact h5)).1 h
  have e:=burst2 hl (by omega) hi (fun m h1 h2=>by
   rw[hg]
   by_cases hm:m<i
   ·rw[if_pos hm]
   ·rw[if_neg hm,if_neg h1,if_neg h2]) (f1.trans f2.symm)
  have g1:=hg i
  rw[←e,if_neg (by omega),if_pos rfl,hx] at g1
  have g2:=hg (i+1)
  rw[←e,if_neg (by omega),if_neg (by omega),if_pos rfl,hy] at g2
  exact Aa ⟨(Option.some.inj g1).symm,(Option.some.inj g2).symm⟩
 ·exact h
end Go.CK
namespace Go.CK
open RowKit VB VarM BP RL VS VL
section
variable {typ:Int} {nu:Bool} {l:List Vl}
theorem Dw8(h:okT typ=false):Dd9 typ nu l=1:=by unfold Dd9;rw[if_pos h]
theorem Dx0(hT:okT typ=true)(h:4096<l.length):Dd9 typ nu l=7:=by unfold Dd9;rw[if_neg (by simp[hT]),if_pos h]
theorem Ct6{p:Vl->Bool}:∀{l:List Vl}{i:Nat}{x:Vl},l[i]?=some x->p x=true->(∀j y,j<i->l[j]?=some y->p y=false)->l.find? p=some x
 | [],i,x,h,_,_=>by simp at h
 | a::l,0,x,h,hp,_=>by
   simp at h;subst h
   rw[List.find?_cons,hp]
 | a::l,i+1,x,h,hp,hb=>by
   have ha:=hb 0 a (by omega) rfl
   rw[List.find?_cons,ha]
   exact Ct6 (l:=l) (i:=i) (by simpa using h) hp (fun j y hj hy=>hb (j+1) y (by omega) (by simpa using hy))
theorem Dw9(hT:okT typ=true)(hl:l.length<=4096)(h:∀x∈l,Ae6 typ nu x=0):Dd9 typ nu l=0:=by
 have hf:l.find? (fun x=>Ae6 typ nu x !=0)=none:=List.find?_eq_none.2 (fun x hx=>by simp[h x hx])
 unfold Dd9
 rw[if_neg (by simp[hT]),if_neg (by omega),hf]
end
theorem Ai7{typ:Int}{i:Nat}(h:uses typ i=true):(typ=3/\(i=1\/i=3))\/(typ≠3/\(i=1\/i=2\/i=4)):=by
 unfold uses at h
 by_cases ht:typ=3
 ·rw[if_pos ht,decide_eq_true_iff] at h;left;exact⟨ht,by omega⟩
 ·rw[if_neg ht,decide_eq_true_iff] at h;right;exact⟨ht,by omega⟩
theorem Cf3{typ:Int}(h:typ=3):uses typ ((1:Nat):Int)=true/\uses typ ((3:Nat):Int)=true:=by unfold uses;rw[if_pos h,if_pos h];decide
theorem Br7{typ:Int}(h:typ≠3):uses typ ((1:Nat):Int)=true/\uses typ ((2:Nat):Int)=true/\uses typ ((4:Nat):Int)=true:=by unfold uses;rw[if_neg h,if_neg h,if_neg h];decide
theorem best_spec(typ:Int)(l:List Vl):∃k:Nat,1<=k/\k<=4/\uses typ k=true/\Bb5 typ l=Aa7 typ k l/\∀i:Nat,uses typ i=true->(Aa7 typ k l).length<=(Aa7 typ i l).length/\(i<k->(Aa7 typ k l).length<(Aa7 typ i l).length):=by
 by_cases ht:typ=3
 ·have hu:=Cf3 ht
  unfold Bb5
  rw[if_pos ht]
  by_cases h:(Aa7 typ 3 l).length<(Aa7 typ 1 l).length
  ·rw[if_pos h]
   refine⟨3,by omega,by omega,hu.2,rfl,fun i hi=>?_⟩
   rcases Ai7 hi with⟨_,rfl | rfl⟩ | ⟨h',_⟩
   ·exact⟨Nat.le_of_lt h,fun _=>h⟩
   ·exact⟨Q1 _,fun h=>absurd h (by omega)⟩
   ·exact absurd ht h'
  ·rw[if_neg h]
   refine⟨1,by omega,by omega,hu.1,rfl,fun i hi=>?_⟩
   rcases Ai7 hi with⟨_,rfl | rfl⟩ | ⟨h',_⟩
   ·exact⟨Q1 _,fun h=>absurd h (by omega)⟩
   ·exact⟨Nat.le_of_not_lt h,fun h=>absurd h (by omega)⟩
   ·exact absurd ht h'
 ·have hu:=Br7 ht
  unfold Bb5
  rw[if_neg ht]
  obtain⟨b1,h1⟩:∃b,Aa7 typ 1 l=b:=⟨_,rfl⟩
  obtain⟨b2,Aa⟩:∃b,Aa7 typ 2 l=b:=⟨_,rfl⟩
  obtain⟨b4,h4⟩:∃b,Aa7 typ 4 l=b:=⟨_,rfl⟩
  have e1:Aa7 typ ((1:Nat):Int) l=b1:=h1
  have e2:Aa7 typ ((2:Nat):Int) l=b2:=Aa
  have e4:Aa7 typ ((4:Nat):Int) l=b4:=h4
  rw[h1,Aa,h4]
  by_cases h:b2.length<b1.length
  ·rw[if_pos h]
   by_cases h2:b4.length<b2.length
   ·rw[if_pos h2]
    refine⟨4,by omega,by omega,hu.2.2,e4.symm,fun i hi=>?_⟩
    rw[e4]
    rcases Ai7 hi with⟨h',_⟩ | ⟨_,rfl | rfl | rfl⟩
    ·exact absurd h' ht
    ·rw[e1];exact⟨by omega,fun _=>by omega⟩
    ·rw[e2];exact⟨by omega,fun _=>by omega⟩
    ·rw[e4];exact⟨by omega,fun _=>by omega⟩
   ·rw[if_neg h2]
    refine⟨2,by omega,by omega,hu.2.1,e2.symm,fun i hi=>?_⟩
    rw[e2]
    rcases Ai7 hi with⟨h',_⟩ | ⟨_,rfl | rfl | rfl⟩
    ·exact absurd h' ht
    ·rw[e1];exact⟨by omega,fun _=>by omega⟩
    ·rw[e2];exact⟨by omega,fun _=>by omega⟩
    ·rw[e4];exact⟨by omega,fun _=>by omega⟩
  ·rw[if_neg h]
   by_cases h2:b4.length<b1.length
   ·rw[if_pos h2]
    refine⟨4,by omega,by omega,hu.2.2,e4.symm,fun i hi=>?_⟩
    rw[e4]
    rcases Ai7 hi with⟨h',_⟩ | ⟨_,rfl | rfl | rfl⟩
    ·exact absurd h' ht
    ·rw[e1];exact⟨by omega,fun _=>by omega⟩
    ·rw[e2];exact⟨by omega,fun _=>by omega⟩
    ·rw[e4];exact⟨by omega,fun _=>by omega⟩
   ·rw[if_neg h2]
    refine⟨1,by omega,by omega,hu.1,e1.symm,fun i hi=>?_⟩
    rw[e1]
    rcases Ai7 hi with⟨h',_⟩ | ⟨_,rfl | rfl | rfl⟩
    ·exact absurd h' ht
    ·rw[e1];exact⟨by omega,fun _=>by omega⟩
    ·rw[e2];exact⟨by omega,fun _=>by omega⟩
    ·rw[e4];exact⟨by omega,fun _=>by omega⟩
theorem Cd7(typ codec:Int)(l:List Vl):5<=(Aa7 typ codec l).length:=by
 unfold Aa7 bodyB
 simp only[Q5,Q6,Q8,show(Ad8 (Ap1 _)).length=4 from rfl]
 omega
theorem Bm2(typ codec:Int)(l:List Vl):Ac0 (str (Aa7 typ codec l))=0:=
 Au4 (bodyB typ codec l) (by unfold bodyB;simp only[Q5,Q6,Q8];omega)
end Go.CK
namespace Go.CK
open RowKit VB VarM BP RL VS VL NU
theorem Ba6{typ:Int}{s:ByteArray}:∀(m:Nat)(p:Int)(acc l:List Vl),Ae5 typ s m p acc=some l->l.length=acc.length+m
 | 0,p,acc,l,h=>by
   unfold Ae5 at h
   by_cases hp:p=s.size
   ·rw[if_pos hp] at h;cases h;rfl
   ·rw[if_neg hp] at h;cases h
 | m+1,p,acc,l,h=>by
   rw[Ae5] at h
   by_cases h1:(Aa2 s p).2.2≠0
   ·rw[if_pos h1] at h;cases h
   ·rw[if_neg h1] at h
    by_cases h2:typ≠3
    ·rw[if_pos h2] at h
     have:=Ba6 m _ _ _ h
     rw[Q5,Q6,Q8] at this;omega
    ·rw[if_neg h2] at h
     by_cases h3:(s.size:Int)-(Aa2 s p).2.1<(Aa2 s p).1
     ·rw[if_pos h3] at h;cases h
     ·rw[if_neg h3] at h
      have:=Ba6 m _ _ _ h
      rw[Q5,Q6,Q8] at this;omega
theorem Ek6{s:ByteArray}{p:Int}{c:Nat}{d:List Int}{q:Nat}(h:Go.DL.getB s p c=(d,q,0)):d.length=c:=by
 unfold Go.DL.getB at h
 by_cases h1:(Aa2 s p).2.2≠0
 ·rw[if_pos h1] at h;simp only[Prod.mk.injEq] at h;exact absurd h.2.2 h1
 ·rw[if_neg h1] at h
  repeat' split at h
  all_goals first
   | (cases h;done)
   | (simp only[Prod.mk.injEq] at h;obtain⟨rfl,_⟩:=h;rw[List.length_map,Aj5])
   | (exact absurd h (by simp))
theorem Cv3{s:ByteArray}:∀(k m:Nat)(p:Int)(l r:List Int),m<=k->Go.DL.decB s m p l=(r,0)->r.length=l.length+m
 | k,0,p,l,r,_,h=>by
   by_cases hp:p<s.size
   ·rw[Go.DL.decB_left rfl hp] at h;cases h
   ·rw[Go.DL.decB_done rfl hp] at h;cases h;rfl
 | 0,m+1,p,l,r,hm,h=>by omega
 | k+1,m+1,p,l,r,hm,h=>by
   obtain⟨d,q,e,hg⟩:∃d q e,Go.DL.getB s p (min (m+1) 32)=(d,q,e):=⟨_,_,_,rfl⟩
   by_cases he:e=0
   ·subst he
    rw[Go.DL.decB_go (by omega) rfl hg] at h
    have h1:=Cv3 k _ _ _ _ (by omega) h
    rw[Go.DL.acc_len,Ek6 hg] at h1
    omega
   ·rw[Go.DL.decB_e (by omega) rfl hg he] at h
    simp only[Prod.mk.injEq] at h;exact absurd h.2 he
theorem Cv0{s:ByteArray}{n:Nat}{r:List Int}(hn:n<=4096)(h:Go.DL.decX s n=(r,0)):r.length=n:=by
 by_cases h0:n=0
 ·subst h0
  by_cases hs:s.size=0
  ·have:=Go.DL.decX_nil hs
   rw[show((0:Nat):Int)=0 from rfl,this] at h;cases h;rfl
  ·have:=Go.DL.decX_some hs
   rw[show((0:Nat):Int)=0 from rfl,this] at h;cases h
 ·obtain⟨a,b,e,hg⟩:∃a b e,Aa2 s 0=(a,b,e):=⟨_,_,_,rfl⟩
  by_cases he:e=0
  ·subst he
   rw[Go.DL.decX_go hn h0 hg] at h
   have:=Cv3 _ _ _ _ _ (Q1 _) h
   rw[this];simp;omega
  ·rw[Go.DL.decX_e hn h0 hg he] at h
   simp only[Prod.mk.injEq] at h;exact absurd h.2 he
theorem Eh1{typ codec:Int}{s:ByteArray}{n:Nat}{l:List Vl}(hn:n<=4096)(h:Bl8 typ codec s n=some l):l.length=n:=by
 unfold Bl8 at h
 by_cases h1:codec=1
 ·rw[if_pos h1] at h
  have:=Ba6 _ _ _ _ h
  simpa using this
 ·rw[if_neg h1] at h
  by_cases h3:codec=3
  ·rw[if_pos h3] at h
   by_cases hc:(Go.DI.decD s n).2=0
   ·rw[if_pos hc] at h;cases h
    rw[List.length_map]
    exact(Go.DI.decD_only hn (r:=(Go.DI.decD s n).1) (Prod.ext rfl hc)).2.1
   ·rw[if_neg hc] at h;cases h
  ·rw[if_neg h3] at h
   by_cases h4:codec=4
   ·rw[if_pos h4] at h
    by_cases hc:(Go.DL.decX s n).2=0
    ·rw[if_pos hc] at h;cases h
     rw[List.length_map]
     exact Cv0 hn (r:=(Go.DL.decX s n).1) (Prod.ext rfl hc)
    ·rw[if_neg hc] at h;cases h
   ·rw[if_neg h4] at h
    by_cases hc:(Be9 s n).2=0
    ·rw[if_pos hc] at h;cases h
     rw[List.length_map]
     exact(Cc5 hn (r:=(Be9 s n).1) (Prod.ext rfl hc)).2.1
    ·rw[if_neg hc] at h;cases h
def nulV:Vl:=⟨true,0,⟨#[]⟩⟩
theorem Av9:∀(b:List Bool)(l:List Vl),(Ai5 b l).length=b.length
 | [],_=>rfl
 | true::b,l=>by rw[Ai5,Q6,Av9 b l,Q6]
 | false::b,[]=>by rw[Ai5,Q6,Av9 b [],Q6]
 | false::b,x::l=>by rw[Ai5,Q6,Av9 b l,Q6]
theorem Aw0(x:Bool):∀(a:List Bool)(l:List Vl),Ai5 (a++[x]) l=Ai5 a l++[if x then nulV else l.getD (a.count false) vl0]
 | [],l=>by
   cases x
   ·cases l<;>rfl
   ·rfl
 | true::a,l=>by
   rw[List.cons_append,Ai5,Ai5,Aw0 x a l,List.count_cons_of_ne (by decide)];rfl
 | false::a,[]=>by
   rw[List.cons_append,Ai5,Ai5,Aw0 x a [],List.count_cons_self]
   cases x<;>simp
 | false::a,y::l=>by
   rw[List.cons_append,Ai5,Ai5,Aw0 x a l,List.count_cons_self]
   cases x<;>simp
theorem Bm7{b:List Bool}{l:List Vl}{j:Nat}{x:Bool}(h:b[j]?=some x):Ai5 (b.take (j+1)) l=Ai5 (b.take j) l++[if x then nulV else l.getD ((b.take j).count false) vl0]:=by
 rw[List.take_add_one,h,Option.toList_some,Aw0]
theorem As9{b:List Bool}{j:Nat}{x:Bool}(h:b[j]?=some x):(b.take (j+1)).count false=(b.take j).count false+if x then 0 else 1:=by
 rw[List.take_add_one,h,Option.toList_some,List.count_append]
 cases x<;>rfl
theorem Eo2{b:List Bool}{j:Nat}(h:b[j]?=some false):(b.take j).count false<b.count false:=by
 have h1:=As9 h
 have h2:(b.take (j+1)).count false<=b.count false:=(List.take_sublist (j+1) b).count_le false
 simp at h1
 omega
theorem Bk4:∀b:List Bool,b.count false+b.count true=b.length
 | []=>rfl
 | true::b=>by rw[List.count_cons_of_ne (by decide),List.count_cons_self,Q6];have:=Bk4 b;omega
 | false::b=>by rw[List.count_cons_self,List.count_cons_of_ne (by decide),Q6];have:=Bk4 b;omega
theorem Cn3{s:ByteArray}{n:Nat}(hn:n<=4096)(h:(upk s n).2=0):(upk s n).1.length=n/\ones (num s) (8*s.size)=(upk s n).1.count true:=by
 by_cases h1:s.size<(n+7)/8
 ·rw[Bx4 hn h1] at h;cases h
 ·by_cases h2:(n+7)/8<s.size
  ·rw[Cn4 hn h2] at h;cases h
  ·have hs:s.size=(n+7)/8:=by omega
   by_cases hr:num s<2 ^ n
   ·rw[Di3 hn hs hr]
    refine⟨Az1 _ _,?_⟩
    show _=(Ar4 n (num s)).count true
    have e:∀k,ones (num s) k=(Ar4 k (num s)).count true:=by
     intro k
     induction k with
     | zero=>rfl
     | succ k ih=>
       rw[Ah9,Bq3,List.count_append,←ih]
       unfold Ep8
       rcases Nat.mod_two_eq_zero_or_one (num s/2 ^ k) with hh | hh<;>simp[hh]
    obtain⟨d,hd⟩:∃d,8*s.size=n+d:=⟨8*s.size-n,by omega⟩
    rw[hd,Ay0,←e,Nat.div_eq_of_lt hr,Bi4,Nat.add_zero]
   ·rw[Cn2 hn hs hr] at h;cases h
def As0(s:ByteArray)(p:Int):Option (List Bool×Nat):=
 if(Aa2 s p).2.2≠0\/4096<(Aa2 s p).1 then none
 else if(Aa2 s (Aa2 s p).2.1).2.2≠0 then none
 else if(Aa2 s (Aa2 s p).2.1).1=0 then some (List.replicate (Aa2 s p).1 false,(Aa2 s (Aa2 s p).2.1).2.1.toNat)
 else if s.size<(Aa2 s (Aa2 s p).2.1).2.1.toNat+((Aa2 s p).1+7)/8 then none
 else if(upk (s.extract (Aa2 s (Aa2 s p).2.1).2.1.toNat ((Aa2 s (Aa2 s p).2.1).2.1.toNat+((Aa2 s p).1+7)/8)) (Aa2 s p).1).2≠0 \/
  ones (num (s.extract (Aa2 s (Aa2 s p).2.1).2.1.toNat ((Aa2 s (Aa2 s p).2.1).2.1.toNat+((Aa2 s p).1+7)/8))) (8*(((Aa2 s p).1+7)/8))≠(Aa2 s (Aa2 s p).2.1).1 then none
 else some ((upk (s.extract (Aa2 s (Aa2 s p).2.1).2.1.toNat ((Aa2 s (Aa2 s p).2.1).2.1.toNat+((Aa2 s p).1+7)/8)) (Aa2 s p).1).1,(Aa2 s (Aa2 s p).2.1).2.1.toNat+((Aa2 s p).1+7)/8)
def Bx3(typ:Int)(s:ByteArray):Option (List Vl):=
 if uses typ (bN s 0:Nat)=false then none else
 (As0 s 1).bind fun x=>(Bl8 typ (bN s 0:Nat) (s.extract x.2 s.size) (x.1.count false)).map fun l=>Ai5 x.1 l
theorem Bn0{s:ByteArray}{p k:Nat}(h:p+k<=s.size):(s.extract p (p+k)).size=k:=by rw[ByteArray.size_extract];omega
theorem Ep5(typ:Int)(nu:Bool)(s:ByteArray):Ea6 typ nu s=(Bx3 typ s).bind fun l=>if ∀x∈l,Ae6 typ nu x=0 then some l else none:=by
 obtain⟨n,q,e,h1⟩:∃n q e,Aa2 s 1=(n,q,e):=⟨_,_,_,rfl⟩
 obtain⟨k,p,f,h2⟩:∃k p f,Aa2 s q=(k,p,f):=⟨_,_,_,rfl⟩
 unfold Ea6 Bx3 As0
 by_cases hu:uses typ (bN s 0:Nat)=false
 ·rw[if_pos (.inr (.inr hu)),if_pos hu];rfl
 ·rw[if_neg hu]
  rw[h1];simp only
  by_cases ha:e≠0\/4096<n
  ·rw[if_pos (ha.elim .inl fun h=>.inr (.inl h)),if_pos ha];rfl
  ·rw[if_neg ha,if_neg (by rintro(h | h | h);exact ha (.inl h);exact ha (.inr h);exact hu h)]
   have hn:n<=4096:=by omega
   rw[h2];simp only
   by_cases hf:f≠0
   ·rw[if_pos (.inl hf),if_pos hf];rfl
   ·rw[if_neg hf]
    by_cases hk:k=0
    ·rw[if_neg (by rintro(h | h);exact hf h;omega),if_pos hk]
     unfold Cy1
     rw[if_pos hk]
     show _=(Option.map _ _).bind _
     simp only[List.count_replicate_self,Option.bind_map]
     rfl
    ·rw[if_neg hk]
     by_cases hs:s.size<p.toNat+(n+7)/8
     ·rw[if_pos hs]
      by_cases hkn:n<k
      ·rw[if_pos (.inr hkn)];rfl
      ·rw[if_neg (by rintro(h | h);exact hf h;exact hkn h)]
       unfold Cy1
       rw[if_neg hk,if_pos hs];rfl
     ·rw[if_neg hs]
      have hz:=Bn0 (s:=s) (p:=p.toNat) (k:=(n+7)/8) (by omega)
      generalize hB:s.extract p.toNat (p.toNat+(n+7)/8)=B at *
      by_cases hc:(upk B n).2≠0\/ones (num B) (8*((n+7)/8))≠k
      ·rw[if_pos hc]
       by_cases hkn:n<k
       ·rw[if_pos (.inr hkn)];rfl
       ·rw[if_neg (by rintro(h | h);exact hf h;exact hkn h)]
        unfold Cy1
        rw[if_neg hk,if_neg hs,hB,if_pos hc];rfl
      ·rw[if_neg hc]
       have Ab:(upk B n).2=0:=by omega
       have Aa:ones (num B) (8*((n+7)/8))=k:=by omega
       obtain⟨hl,ho⟩:=Cn3 hn Ab
       rw[hz,Aa] at ho
       have h2:=Bk4 (upk B n).1
       rw[if_neg (by rintro(h | h);exact hf h;omega)]
       unfold Cy1
       rw[if_neg hk,if_neg hs,hB,if_neg hc,show n-k=(upk B n).1.count false by omega]
       show _=(Option.map _ _).bind _
       simp only[Option.bind_map]
       rfl
end Go.CK
namespace Go.CK
open RowKit VB VarM BP RL VS VL NU
theorem El0{c:Nat}(hc:c<4294967296){x0 x1 x2 x3:UInt8}:[x0,x1,x2,x3]=Ad8 c↔x0.toNat+256*x1.toNat+65536*x2.toNat+16777216*x3.toNat=c:=by
 have h0:=UInt8.toNat_lt x0;have h1:=UInt8.toNat_lt x1;have h2:=UInt8.toNat_lt x2;have h3:=UInt8.toNat_lt x3
 unfold Ad8
 simp only[List.cons.injEq,and_true]
 have e:∀(x:UInt8)(n:Nat),x=UInt8.ofNat (n%256)↔x.toNat=n%256:=fun x n=>by
  constructor
  ·intro h;rw[h];exact Aq3 n
  ·intro h;apply UInt8.toNat_inj.1;rw[Aq3];exact h
 rw[e,e,e,e]
 omega
theorem Ca6{s:ByteArray}(h:5<=s.size){c:Nat}(hc:c<4294967296):s.extract (s.size-4) s.size=str (Ad8 c)↔Ac6 s (s.size-4)=c:=by
 obtain⟨b,x0,x1,x2,x3,hb,Ab⟩:=last4 (T:=s.data.toList) (by rw[Aa1];exact h)
 obtain rfl:s=str (b++[x0,x1,x2,x3]):=by rw[←hb,Aw5]
 have Aa:(str (b++[x0,x1,x2,x3])).size=b.length+4:=by rw[Aa3,Q5];rfl
 have hw:Ac6 (str (b++[x0,x1,x2,x3])) (b.length+4-4)=x0.toNat+256*x1.toNat+65536*x2.toNat+16777216*x3.toNat:=by
  unfold Ac6
  rw[Aj7 (i:=0) _ (by omega),Aj7 (i:=1) _ (by omega),Aj7 (i:=2) _ (by omega),Aj7 (i:=3) _ (by omega)]
  rfl
 have hx:(str (b++[x0,x1,x2,x3])).extract (b.length+4-4) (b.length+4)=str [x0,x1,x2,x3]:=by
  have:=Au8 b [x0,x1,x2,x3]
  rw[show(b++[x0,x1,x2,x3]).length=b.length+4 from by rw[Q5];rfl] at this
  exact this
 rw[Aa,hw,hx,←El0 hc]
 exact⟨fun h=>Cf8 h,fun h=>by rw[h]⟩
theorem Bc0{s:ByteArray}(h:s.size<5):Ac0 s=10:=by unfold Ac0;rw[if_pos h]
theorem Cy6{s:ByteArray}(h:5<=s.size)(hw:Ac6 s (s.size-4)≠Ap1 (s.extract 0 (s.size-4)).data.toList):Ac0 s=9:=by unfold Ac0;rw[if_neg (by omega),if_pos hw]
theorem Dk3{s:ByteArray}(h:5<=s.size)(hw:Ac6 s (s.size-4)=Ap1 (s.extract 0 (s.size-4)).data.toList):Ac0 s=0:=by unfold Ac0;rw[if_neg (by omega),if_neg (fun h=>h hw)]
theorem Ed3(s:ByteArray)(p:Nat):Ac6 s p<4294967296:=by
 unfold Ac6
 have h0:=Ah2 s p;have h1:=Ah2 s (p+1);have h2:=Ah2 s (p+2);have h3:=Ah2 s (p+3)
 omega
def Ak1(typ:Int)(nu:Bool)(l:List Vl):Nat:=match l.find? fun x=>Ae6 typ nu x !=0 with
 | some x=>Ae6 typ nu x
 | none=>0
theorem Bp2{typ:Int}{nu:Bool}{l:List Vl}{i:Nat}{x:Vl}(hi:l[i]?=some x)(Ab:Ae6 typ nu x≠0)(Aa:∀j y,j<i->l[j]?=some y->Ae6 typ nu y=0):Ak1 typ nu l=Ae6 typ nu x:=by
 have hf:=Ct6 (p:=fun x=>Ae6 typ nu x !=0) hi (by simpa using Ab) (fun j y hj hy=>by simp[Aa j y hj hy])
 unfold Ak1;rw[hf]
theorem Ao8{typ:Int}{nu:Bool}{l:List Vl}(h:∀x∈l,Ae6 typ nu x=0):Ak1 typ nu l=0:=by
 have hf:l.find? (fun x=>Ae6 typ nu x !=0)=none:=List.find?_eq_none.2 (fun x hx=>by simp[h x hx])
 unfold Ak1;rw[hf]
theorem firstE_zero{typ:Int}{nu:Bool}{l:List Vl}:Ak1 typ nu l=0↔∀x∈l,Ae6 typ nu x=0:=by
 refine⟨fun h=>?_,Ao8⟩
 unfold Ak1 at h
 intro x hx
 cases hf:l.find? (fun x=>Ae6 typ nu x !=0) with
 | some y=>
   have h2:=List.find?_some hf
   rw[hf] at h
   simp only[bne_iff_ne,ne_eq] at h2
   exact absurd h h2
 | none=>
   have:=List.find?_eq_none.1 hf x hx
   simpa using this
theorem Dd8{typ:Int}{nu:Bool}{l:List Vl}(hT:okT typ=true)(hl:l.length<=4096):Dd9 typ nu l=Ak1 typ nu l:=by
 unfold Dd9 Ak1;rw[if_neg (by simp[hT]),if_neg (by omega)];all_goals rfl
theorem En1{typ:Int}{nu:Bool}{s:ByteArray}(hT:okT typ=true)(hs:Ac0 s=0):
   At7 typ nu s=match Bx3 typ (s.extract 0 (s.size-4)) with
    | some l=>if Ak1 typ nu l=0 then(l,0) else([],2)
    | none=>([],2):=by
 unfold At7
 rw[if_neg (by simp[hT]),if_neg (by simp[hs]),Ep5]
 cases h:Bx3 typ (s.extract 0 (s.size-4)) with
 | none=>rfl
 | some l=>
   simp only[Option.bind_some]
   by_cases hv:∀x∈l,Ae6 typ nu x=0
   ·rw[if_pos hv,if_pos (Ao8 hv)]
   ·rw[if_neg hv,if_neg (fun e=>hv (firstE_zero.1 e))]
theorem Dy2{typ:Int}{nu:Bool}{s:ByteArray}(hT:okT typ=false):At7 typ nu s=([],1):=by unfold At7;rw[if_pos hT]
theorem decC_bad{typ:Int}{nu:Bool}{s:ByteArray}(hT:okT typ=true)(hs:Ac0 s≠0):At7 typ nu s=([],Ac0 s):=by unfold At7;rw[if_neg (by simp[hT]),if_pos hs]
theorem chkV_size{typ:Int}{nu:Bool}{x:Vl}(hT:okT typ=true)(h:Ae6 typ nu x=0):x.s.size<=64:=by
 cases hx:x.nu with
 | true=>rw[Bw3 hT h hx];decide
 | false=>
   obtain⟨xn,n,s⟩:=x
   simp only at hx;subst hx
   unfold Ae6 at h
   simp only at h
   rw[Ap3 hT] at h
   by_cases hh:(typ=3/\n≠0)\/(typ≠3/\s.size≠0)
   ·rw[if_pos hh] at h;cases h
   ·rw[if_neg hh] at h
    by_cases ht:typ=3
    ·subst ht
     have hk:okP 3 n s=true:=by
      cases hk:okP 3 n s with
      | true=>rfl
      | false=>rw[hk] at h;cases h
     unfold okP at hk
     rw[if_neg (by decide),if_pos rfl] at hk
     exact of_decide_eq_true hk
    ·show s.size<=64
     omega
end Go.CK
namespace Go.CK
open RowKit VB VarM BP RL VS VL NU
def Vok(x:Vl):Prop:=x.s.size<=64/\(-9223372036854775808<=x.n/\x.n<=9223372036854775807)
theorem one_le{typ:Int}{x:Vl}(h:Vok x):(one typ x).length<=74:=by
 unfold one
 by_cases ht:typ=3
 ·rw[if_pos ht,Q5,Aa1]
  have:=Aa5 (n:=x.s.size) (by have:=h.1;omega)
  have:=h.1
  omega
 ·rw[if_neg ht]
  have:=Aa5 (n:=(Ai4 x.n).toNat) (zig_lt h.2)
  omega
theorem Cp9{typ:Int}{l:List Vl}(h:∀x∈l,Vok x):(Ag8 typ l).length<=74*l.length:=by
 induction l with
 | nil=>rw[Bz6];exact Q1 _
 | cons x l ih=>
   have h1:=one_le (typ:=typ) (h x (List.mem_cons_self ..))
   have h2:=ih (fun y hy=>h y (List.mem_cons_of_mem _ hy))
   rw[Bn9,Q5,Q6]
   omega
theorem Dh5{ws:List ByteArray}(h:∀x∈ws,x.size<=64):(Go.DI.wrds ws).length<=74*ws.length:=by
 induction ws with
 | nil=>rw[Go.DI.wrds_nil];exact Q1 _
 | cons w ws ih=>
   have h1:=h w (List.mem_cons_self ..)
   have h2:=ih (fun x hx=>h x (List.mem_cons_of_mem _ hx))
   have h3:=Aa5 (n:=w.size) (by omega)
   rw[Go.DI.wrds_cons,Q5,Go.DI.wrd,Q5,Aa1,Q6]
   omega
theorem Dx1{l:List ByteArray}(hl:l.length<=4096)(h:∀x∈l,x.size<=64):(Go.DI.encD l).length<=310000:=by
 have h1:=Go.DI.srt_len l
 have h2:=Dh5 (ws:=Go.DI.srt l) (fun x hx=>h x (Go.DI.srt_mem.1 hx))
 have h3:=Go.DI.packed_le (u:=Go.DI.idx l) (w:=Go.DI.wdt (Go.DI.srt l).length) (by rw[Go.DI.idx_len];omega) (Go.DI.wdt_le (by omega))
 have h4:=Aa5 (n:=(Go.DI.srt l).length) (by omega)
 rw[Go.DI.encD_in hl,Go.DI.encW,Q5,Q5]
 omega
theorem Bt5{l:List Vl}(h:∀x∈l,Vok x):I64 (Be4 l):=by
 intro z hz
 simp only[Be4,List.mem_map] at hz
 obtain⟨x,hx,rfl⟩:=hz
 exact(h x hx).2
theorem Di5{l:List Vl}(h:∀x∈l,Vok x):∀s∈Bx6 l,s.size<=64:=by
 intro z hz
 simp only[Bx6,List.mem_map] at hz
 obtain⟨x,hx,rfl⟩:=hz
 exact(h x hx).1
theorem Es0{typ codec:Int}{l:List Vl}(hl:l.length<=4096)(h:∀x∈l,Vok x):(Av6 typ codec l).length<=320000:=by
 unfold Av6
 by_cases h2:codec=2
 ·rw[if_pos h2]
  have:=Cu4 (Bt5 h)
  have e:(Be4 l).length=l.length:=List.length_map _
  omega
 ·rw[if_neg h2]
  by_cases h3:codec=3
  ·rw[if_pos h3]
   have:=Dx1 (l:=Bx6 l) (by rw[show(Bx6 l).length=l.length from List.length_map _];exact hl) (Di5 h)
   omega
  ·rw[if_neg h3]
   by_cases h4:codec=4
   ·rw[if_pos h4]
    have:=Go.DL.encX_len (Bt5 h)
    omega
   ·rw[if_neg h4]
    have:=Cp9 (typ:=typ) h
    omega
def Fh5(b:List Bool):List UInt8:=Aa4 b.length++Aa4 (b.count true)++(if b.count true=0 then[] else(Go.NU.bmp b).data.toList)
theorem Fa9{b:List Bool}(h:b.length<=4096):(Fh5 b).length<=540:=by
 unfold Fh5
 have hc:=List.count_le_length (a:=true) (l:=b)
 have h1:=Aa5 (n:=b.length) (by omega)
 have h2:=Aa5 (n:=b.count true) (by omega)
 have hs:=Az2 b
 rw[Q5,Q5]
 by_cases h0:b.count true=0
 ·rw[if_pos h0];simp;omega
 ·rw[if_neg h0,Aa1];omega
theorem Bq4(typ:Int)(k:Nat)(l:List Vl):[UInt8.ofNat k]++Fh5 (Ae3 l)++Av6 typ k (Ab9 l)=bodyB typ k l:=by
 have hc:=Ao4 l
 have hs:=Ao0 l
 unfold bodyB Fh5
 rw[hc,Af3]
 by_cases h:(Ab9 l).length<l.length
 ·rw[if_pos h,if_neg (by omega)]
  simp only[List.append_assoc];rfl
 ·rw[if_neg h,if_pos (by omega)]
  simp only[List.append_assoc];rfl
theorem Cg0{l:List Vl}(h:∀x∈l,Vok x):∀x∈Ab9 l,Vok x:=fun x hx=>h x (List.mem_filter.1 hx).1
theorem Ea5{typ:Int}{k:Nat}{l:List Vl}(hl:l.length<=4096)(h:∀x∈l,Vok x):(bodyB typ k l).length<=330000:=by
 have h1:=Es0 (typ:=typ) (codec:=k) (Nat.le_trans (Ao0 l) hl) (Cg0 h)
 have h2:=Fa9 (b:=Ae3 l) (by rw[Af3];exact hl)
 rw[←Bq4,Q5,Q5,Q6,Q8]
 omega
theorem Cw5{typ:Int}{k:Nat}{l:List Vl}(hl:l.length<=4096)(h:∀x∈l,Vok x):(Aa7 typ k l).length<=330004:=by
 have:=Ea5 (typ:=typ) (k:=k) hl h
 unfold Aa7 Ad8
 rw[Q5];simp;omega
theorem ok_of{typ:Int}{nu:Bool}{l:List Vl}(hT:okT typ=true)(hv:∀x∈l,Ae6 typ nu x=0)(hb:∀x∈l,-9223372036854775808<=x.n/\x.n<=9223372036854775807):∀x∈l,Vok x:=
 fun x hx=>⟨chkV_size hT (hv x hx),hb x hx⟩
end Go.CK
namespace Go.CK
open RowKit VB VarM BP RL VS VL NU
theorem Fe3(s:ByteArray)(n:Nat):∀(m:Nat)(l:List Int)(p:Int),n-l.length<=m->(dec s n p l).2≠0->(dec s n p l).1=[]:=by
 intro m
 induction m with
 | zero=>
   intro l p hm h
   rw[dec,if_neg (by omega)] at h⊢
   by_cases h1:p<s.size
   ·rw[if_pos h1]
   ·rw[if_neg h1] at h;exact absurd rfl h
 | succ m ih=>
   intro l p hm h
   rw[dec] at h⊢
   by_cases h1:l.length<n
   ·rw[if_pos h1] at h⊢
    by_cases h2:(Aa2 s p).2.2≠0
    ·rw[if_pos h2]
    ·rw[if_neg h2] at h⊢
     by_cases h3:(Aa2 s p).1=0\/n-l.length<(Aa2 s p).1
     ·rw[dif_pos h3]
     ·rw[dif_neg h3] at h⊢
      by_cases h4:(Aa2 s (Aa2 s p).2.1).2.2≠0
      ·rw[if_pos h4]
      ·rw[if_neg h4] at h⊢
       by_cases h5:l.getLast?=some (Ak0 (Aa2 s (Aa2 s p).2.1).1)
       ·rw[if_pos h5]
       ·rw[if_neg h5] at h⊢
        exact ih _ _ (by rw[Q5,List.length_replicate];omega) h
   ·rw[if_neg h1] at h⊢
    by_cases h2:p<s.size
    ·rw[if_pos h2]
    ·rw[if_neg h2] at h;exact absurd rfl h
theorem En3(s:ByteArray):∀(k m:Nat)(l:List Int)(p:Int),m<=k->(Go.DL.decB s m p l).2≠0->(Go.DL.decB s m p l).1=[]:=by
 intro k
 induction k with
 | zero=>
   intro m l p hm h
   obtain rfl:m=0:=by omega
   by_cases h1:p<s.size
   ·rw[Go.DL.decB_left rfl h1]
   ·rw[Go.DL.decB_done rfl h1] at h;exact absurd rfl h
 | succ k ih=>
   intro m l p hm h
   by_cases h0:m=0
   ·by_cases h1:p<s.size
    ·rw[Go.DL.decB_left h0 h1]
    ·rw[Go.DL.decB_done h0 h1] at h;exact absurd rfl h
   ·obtain⟨d,q,e,hg⟩:∃d q e,Go.DL.getB s p (min m 32)=(d,q,e):=⟨_,_,_,rfl⟩
    by_cases he:e=0
    ·subst he
     rw[Go.DL.decB_go h0 rfl hg] at h⊢
     exact ih _ _ _ (by omega) h
    ·rw[Go.DL.decB_e h0 rfl hg he]
theorem Em7{s:ByteArray}{n:Nat}(h:(Be9 s n).2≠0):(Be9 s n).1=[]:=by
 unfold Be9 at h⊢
 by_cases h1:(n:Int)<0\/4096<(n:Int)
 ·rw[if_pos h1]
 ·rw[if_neg h1] at h⊢
  exact Fe3 s _ _ _ _ (Q1 _) h
theorem Em4{s:ByteArray}{n:Nat}(h:(Go.DL.decX s n).2≠0):(Go.DL.decX s n).1=[]:=by
 unfold Go.DL.decX at h⊢
 by_cases h1:(n:Int)<0\/4096<(n:Int)
 ·rw[if_pos h1]
 ·rw[if_neg h1] at h⊢
  by_cases h2:(n:Int)=0
  ·rw[if_pos h2] at h⊢
   by_cases h3:s.size=0
   ·rw[if_pos h3]
   ·rw[if_neg h3]
  ·rw[if_neg h2] at h⊢
   by_cases h3:(Aa2 s 0).2.2≠0
   ·rw[if_pos h3]
   ·rw[if_neg h3] at h⊢
    exact En3 s _ _ _ _ (Q1 _) h
theorem Fb5{ws:List ByteArray}{u:List Nat}(h:(Go.DI.lkR ws u).2≠0):(Go.DI.lkR ws u).1=[]:=by
 unfold Go.DI.lkR at h⊢
 by_cases h1:(∀i∈u,i<ws.length)/\(∀j,j<ws.length->j∈u)
 ·rw[if_pos h1] at h;exact absurd rfl h
 ·rw[if_neg h1]
theorem En0{s:ByteArray}{n:Nat}(h:(Go.DI.decD s n).2≠0):(Go.DI.decD s n).1=[]:=by
 unfold Go.DI.decD at h⊢
 generalize Go.DI.dws s (Aa2 s 0).1 (Aa2 s 0).2.1 []=D at *
 generalize Ad2 (s.extract D.2.1.toNat s.size) n (Go.DI.wdt (Aa2 s 0).1:Nat)=U at *
 by_cases h1:(n:Int)<0\/4096<(n:Int)
 ·rw[if_pos h1]
 ·rw[if_neg h1] at h⊢
  by_cases h2:(Aa2 s 0).2.2≠0
  ·rw[if_pos h2]
  ·rw[if_neg h2] at h⊢
   by_cases h3:(n:Int)<(Aa2 s 0).1\/((Aa2 s 0).1=0/\0<(n:Int))
   ·rw[if_pos h3]
   ·rw[if_neg h3] at h⊢
    by_cases h4:D.2.2≠0
    ·rw[if_pos h4]
    ·rw[if_neg h4] at h⊢
     by_cases h5:U.2≠0
     ·rw[if_pos h5]
     ·rw[if_neg h5] at h⊢
      exact Fb5 h
theorem Fe7{s:ByteArray}{n:Nat}(hn:n<=4096):(Be9 s n).1.length<=4096:=by
 by_cases h:(Be9 s n).2=0
 ·rw[(Cc5 hn (r:=(Be9 s n).1) (Prod.ext rfl h)).2.1];exact hn
 ·rw[Em7 h];decide
theorem Fe6{s:ByteArray}{n:Nat}(hn:n<=4096):(Go.DL.decX s n).1.length<=4096:=by
 by_cases h:(Go.DL.decX s n).2=0
 ·rw[Cv0 hn (r:=(Go.DL.decX s n).1) (Prod.ext rfl h)];exact hn
 ·rw[Em4 h];decide
theorem Fe8{s:ByteArray}{n:Nat}(hn:n<=4096):(Go.DI.decD s n).1.length<=4096:=by
 by_cases h:(Go.DI.decD s n).2=0
 ·rw[(Go.DI.decD_only hn (r:=(Go.DI.decD s n).1) (Prod.ext rfl h)).2.1];exact hn
 ·rw[En0 h];decide
def pv1(typ:Int)(s:ByteArray)(p:Int):Vl×Int×Bool:=
 if(Aa2 s p).2.2≠0 then(vl0,0,false)
 else if typ≠3 then(⟨false,Ak0 (Aa2 s p).1,⟨#[]⟩⟩,(Aa2 s p).2.1,true)
 else if(s.size:Int)-(Aa2 s p).2.1<(Aa2 s p).1 then(vl0,0,false)
 else(⟨false,0,s.extract (Aa2 s p).2.1.toNat ((Aa2 s p).2.1.toNat+(Aa2 s p).1)⟩,(Aa2 s p).2.1+(Aa2 s p).1,true)
theorem Da4(typ:Int)(s:ByteArray)(m:Nat)(p:Int)(acc:List Vl):Ae5 typ s (m+1) p acc=if(pv1 typ s p).2.2 then Ae5 typ s m (pv1 typ s p).2.1 (acc++[(pv1 typ s p).1]) else none:=by
 rw[Ae5]
 unfold pv1
 by_cases h1:(Aa2 s p).2.2≠0
 ·rw[if_pos h1,if_pos h1];rfl
 ·rw[if_neg h1,if_neg h1]
  by_cases h2:typ≠3
  ·rw[if_pos h2,if_pos h2];rfl
  ·rw[if_neg h2,if_neg h2]
   by_cases h3:(s.size:Int)-(Aa2 s p).2.1<(Aa2 s p).1
   ·rw[if_pos h3,if_pos h3];rfl
   ·rw[if_neg h3,if_neg h3];rfl
section
variable {typ:Int} {s:ByteArray} {p:Int} {a e:Nat} {b:Int}
theorem pv1_e(hg:Aa2 s p=(a,b,e))(he:e≠0):pv1 typ s p=(vl0,0,false):=by unfold pv1;rw[hg,if_pos he]
theorem Ey8(hg:Aa2 s p=(a,b,0))(ht:typ≠3):pv1 typ s p=(⟨false,Ak0 a,⟨#[]⟩⟩,b,true):=by unfold pv1;rw[hg,if_neg (by simp),if_pos ht]
theorem Eg3(hg:Aa2 s p=(a,b,0))(h:(s.size:Int)-b<a):pv1 3 s p=(vl0,0,false):=by unfold pv1;rw[hg,if_neg (by simp),if_neg (by simp),if_pos h]
theorem Eg2{b:Nat}(hg:Aa2 s p=(a,(b:Int),0))(h:b+a<=s.size):pv1 3 s p=(⟨false,0,s.extract b (b+a)⟩,(b:Int)+a,true):=by
 unfold pv1;rw[hg,if_neg (by simp),if_neg (by simp),if_neg (by simp only;omega)];simp
end
end Go.CK
