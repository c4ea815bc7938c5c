/- Texts of one part, joined. -/
import Derived.Test.YtnmlajmaffiigaaGreatDoorGv
import Derived.Test.YtnmlajmaffiigaaGreatDoorGa
import Derived.Lib.AppendStr
import Derived.StillTailTactics
import Derived.Deep.RegionWith
import Derived.BigQuiet
set_option linter.constructorNameAsVariable false
set_option maxRecDepth 100000
set_option maxHeartbeats 4000000
open Go Go.Proofs Go.Proofs.YtnmlajmaffiigaaGreatDoor Go.P
namespace Go.RL
open RowKit VB VarM
def fr(v:Int):List Int->Nat
 | []=>0
 | x::r=>if x=v then fr v r+1 else 0
theorem Dv2(v:Int):∀l,fr v l<=l.length
 | []=>Q1 _
 | x::r=>by
   have:=Dv2 v r
   unfold fr;split<;>simp<;>omega
theorem Dv3(v:Int):∀l:List Int,(l.drop (fr v l)).head?≠some v
 | []=>by simp[fr]
 | x::r=>by
   unfold fr
   by_cases h:x=v
   ·rw[if_pos h,List.drop_succ_cons];exact Dv3 v r
   ·rw[if_neg h];simpa using h
theorem Ci9(v:Int):∀l,l.take (fr v l)=List.replicate (fr v l) v
 | []=>rfl
 | x::r=>by
   unfold fr
   by_cases h:x=v
   ·rw[if_pos h,List.take_succ_cons,Ci9 v r,List.replicate_succ,h]
   ·rw[if_neg h];rfl
theorem Eu2(v:Int):∀k,fr v (List.replicate k v)=k
 | 0=>rfl
 | k+1=>by rw[List.replicate_succ,fr,if_pos rfl,Eu2 v k]
theorem Fd5{v:Int}{l:List Int}(h:l.head?≠some v):fr v l=0:=by
 cases l with
 | nil=>rfl
 | cons x r=>rw[fr,if_neg (fun e=>h (by simp[e]))]
theorem Cb9{v:Int}:∀{l:List Int}(m:List Int),fr v l<l.length->fr v (l++m)=fr v l
 | [],_,h=>by simp[fr] at h
 | x::r,m,h=>by
   unfold fr at h⊢
   by_cases hx:x=v
   ·rw[if_pos hx] at h
    simp only[Q6] at h
    rw[List.cons_append]
    simp only[hx,if_true]
    rw[Cb9 m (by omega)]
   ·simp only[List.cons_append,if_neg hx]
theorem Cc0{v:Int}:∀{l:List Int}(m:List Int),fr v l=l.length->fr v (l++m)=l.length+fr v m
 | [],_,_=>by simp
 | x::r,m,h=>by
   unfold fr at h
   by_cases hx:x=v
   ·rw[if_pos hx,Q6] at h
    rw[List.cons_append,fr,if_pos hx,Cc0 m (by omega),Q6];omega
   ·rw[if_neg hx,Q6] at h;omega
theorem Cj0{v:Int}{l:List Int}{j:Nat}(h:l[j]?=some v):fr v (l.drop j)=fr v (l.drop (j+1))+1:=by
 obtain⟨hj,he⟩:=List.getElem?_eq_some_iff.1 h
 rw[List.drop_eq_getElem_cons hj,fr,if_pos he]
theorem Fd6{v x:Int}{l:List Int}{j:Nat}(h:l[j]?=some x)(hx:x≠v):fr v (l.drop j)=0:=by
 obtain⟨hj,he⟩:=List.getElem?_eq_some_iff.1 h
 rw[List.drop_eq_getElem_cons hj,fr,if_neg (by rw[he];exact hx)]
theorem fr_end{v:Int}{l:List Int}{j:Nat}(h:l.length<=j):fr v (l.drop j)=0:=by
 rw[List.drop_eq_nil_of_le h];rfl
def Cz3(k:Nat)(v:Int):List UInt8:=Aa4 k++Aa4 (Ai4 v).toNat
def As6:List Int->List UInt8
 | []=>[]
 | x::r=>Cz3 (fr x r+1) x++As6 (r.drop (fr x r))
termination_by l=>l.length
decreasing_by simp;omega
def nR:List Int->Nat
 | []=>0
 | x::r=>nR (r.drop (fr x r))+1
termination_by l=>l.length
decreasing_by simp;omega
theorem Ai3:As6 []=[]:=by rw[As6]
theorem An5(x:Int)(r:List Int):As6 (x::r)=Cz3 (fr x r+1) x++As6 (r.drop (fr x r)):=by rw[As6]
theorem Et2:nR []=0:=by rw[nR]
theorem Fb1(x:Int)(r:List Int):nR (x::r)=nR (r.drop (fr x r))+1:=by rw[nR]
theorem El9{l:List Int}{i:Nat}{x:Int}(h:l[i]?=some x):fr x (l.drop i)=fr x (l.drop (i+1))+1/\l.drop (i+fr x (l.drop i))=(l.drop (i+1)).drop (fr x (l.drop (i+1))):=by
 have e:=Cj0 h
 refine⟨e,?_⟩
 rw[e,List.drop_drop];congr 1;omega
theorem Fe0{l:List Int}{i:Nat}{x:Int}(h:l[i]?=some x):As6 (l.drop i)=Cz3 (fr x (l.drop i)) x++As6 (l.drop (i+fr x (l.drop i))):=by
 obtain⟨e1,e2⟩:=El9 h
 obtain⟨hj,he⟩:=List.getElem?_eq_some_iff.1 h
 rw[e2,e1,List.drop_eq_getElem_cons hj,An5,he]
theorem fr_at{l:List Int}{i:Nat}{x:Int}(h:l[i]?=some x):1<=fr x (l.drop i)/\i+fr x (l.drop i)<=l.length:=by
 obtain⟨hj,_⟩:=List.getElem?_eq_some_iff.1 h
 have h1:=Cj0 h
 have h2:=Dv2 x (l.drop i)
 rw[List.length_drop] at h2
 omega
def I64(l:List Int):Prop:=∀z∈l,-9223372036854775808<=z/\z<=9223372036854775807
theorem I64.drop{l:List Int}(h:I64 l)(n:Nat):I64 (l.drop n):=fun z hz=>h z (List.mem_of_mem_drop hz)
theorem I64.at{l:List Int}(h:I64 l){i:Nat}{x:Int}(hx:l[i]?=some x):-9223372036854775808<=x/\x<=9223372036854775807:=h x (List.mem_of_getElem? hx)
theorem I64.tail{x:Int}{l:List Int}(h:I64 (x::l)):I64 l:=fun z hz=>h z (List.mem_cons_of_mem _ hz)
theorem I64.head{x:Int}{l:List Int}(h:I64 (x::l)):-9223372036854775808<=x/\x<=9223372036854775807:=h x (List.mem_cons_self ..)
theorem zig_lt{v:Int}(h:-9223372036854775808<=v/\v<=9223372036854775807):(Ai4 v).toNat<18446744073709551616:=by
 have:=Av7 h.1 h.2;omega
theorem Do1:∀k,1<=k->(Aa4 k).length<=k:=by
 intro k
 induction k using Nat.strongRecOn with
 | _ k ih=>
   intro hk
   by_cases h:k<128
   ·rw[Ao1 h];simpa using hk
   ·rw[Au7 h,Q6]
    have:=ih (k/128) (by omega) (by omega)
    omega
theorem Ex9{k:Nat}{v:Int}(hk:1<=k)(h:-9223372036854775808<=v/\v<=9223372036854775807):(Cz3 k v).length<=k+10:=by
 have h1:=Do1 k hk
 have h2:=Aa5 (zig_lt h)
 unfold Cz3;rw[Q5];omega
theorem Ey0(k:Nat)(v:Int):2<=(Cz3 k v).length:=by
 have h1:=Ax8 k
 have h2:=Ax8 (Ai4 v).toNat
 unfold Cz3;rw[Q5];omega
theorem Dl9{k:Nat}{v:Int}(hk:k<16384)(h:-9223372036854775808<=v/\v<=9223372036854775807):(Cz3 k v).length<=12:=by
 have h1:=Ah0 (n:=k) 2 (by omega) (by decide)
 have h2:=Aa5 (zig_lt h)
 unfold Cz3;rw[Q5];omega
theorem Dw4:∀(n:Nat)(l:List Int),l.length<=n->I64 l->(As6 l).length<=11*l.length/\2*nR l<=(As6 l).length/\nR l<=l.length/\(l.length<16384->(As6 l).length<=12*nR l):=by
 intro n
 induction n with
 | zero=>
   intro l hl _
   have:l=[]:=List.eq_nil_of_length_eq_zero (by omega)
   subst this
   rw[Ai3,Et2];simp
 | succ n ih=>
   intro l hl hi
   cases l with
   | nil=>rw[Ai3,Et2];simp
   | cons x r=>
     have hf:=Dv2 x r
     have hd:(r.drop (fr x r)).length=r.length-fr x r:=List.length_drop
     simp only[Q6] at hl
     obtain⟨h1,h2,h3,h4⟩:=ih (r.drop (fr x r)) (by omega) (hi.tail.drop _)
     have r1:=Ex9 (k:=fr x r+1) (by omega) hi.head
     have r2:=Ey0 (fr x r+1) x
     rw[An5,Fb1,Q5,Q6]
     refine⟨by omega,by omega,by omega,fun hs=>?_⟩
     have r3:=Dl9 (k:=fr x r+1) (by omega) hi.head
     have:=h4 (by omega)
     omega
theorem Cu4{l:List Int}(h:I64 l):(As6 l).length<=11*l.length:=(Dw4 _ l (Q1 _) h).1
theorem getLast?_drop{l:List Int}{n:Nat}(h:n<l.length):(l.drop n).getLast?=l.getLast?:=by
 rw[List.getLast?_drop,if_neg (by omega)]
theorem Dw6:∀(n:Nat)(l:List Int)(k:Nat)(v:Int),l.length<=n->1<=k->l.getLast?≠some v->As6 (l++List.replicate k v)=As6 l++Cz3 k v:=by
 intro n
 induction n with
 | zero=>
   intro l k v hl hk _
   have:l=[]:=List.eq_nil_of_length_eq_zero (by omega)
   subst this
   obtain⟨j,rfl⟩:∃j,k=j+1:=⟨k-1,by omega⟩
   rw[List.nil_append,Ai3,List.nil_append,List.replicate_succ,An5,Eu2,List.drop_eq_nil_of_le (by simp),Ai3,List.append_nil]
 | succ n ih=>
   intro l k v hl hk Aa
   cases l with
   | nil=>exact ih [] k v (by simp) hk Aa
   | cons x r=>
     simp only[Q6] at hl
     have hf:=Dv2 x r
     rw[List.cons_append,An5,An5]
     by_cases hlt:fr x r<r.length
     ·have hd:(r.drop (fr x r)).length=r.length-fr x r:=List.length_drop
      have e2:(r.drop (fr x r)).getLast?=(x::r).getLast?:=by
       rw[getLast?_drop hlt,List.getLast?_cons]
       cases r with
       | nil=>simp at hlt
       | cons y t=>rw[List.getLast?_cons];rfl
      rw[Cb9 _ hlt,List.drop_append_of_le_length (Nat.le_of_lt hlt),ih (r.drop (fr x r)) k v (by omega) hk (by rw[e2];exact Aa),List.append_assoc]
     ·have he:fr x r=r.length:=by omega
      have hr:=Ci9 x r
      rw[he,List.take_length] at hr
      have hv:x≠v:=by
       intro e
       apply Aa
       rw[hr,←List.replicate_succ,e,List.getLast?_replicate,if_neg (by omega)]
      have h0:fr x (List.replicate k v)=0:=Fd5 (by
       obtain⟨j,rfl⟩:∃j,k=j+1:=⟨k-1,by omega⟩
       rw[List.replicate_succ];simpa using fun e=>hv e.symm)
      have h1:=ih [] k v (by simp) hk (by simp)
      rw[List.nil_append,Ai3,List.nil_append] at h1
      rw[Cc0 _ he,h0,he]
      simp only[Nat.add_zero]
      rw[List.drop_left,List.drop_length,Ai3,List.append_nil,h1]
theorem getR_zero{s:ByteArray}{i:Int}{a:Nat}{b:Int}(h:Aa2 s i=(a,b,0)):∃k m:Nat,i=k/\b=(k:Int)+m/\1<=m/\k+m<=s.size/\Aa4 a=(s.data.toList.drop k).take m/\a<18446744073709551616:=by
 by_cases hr:i<0\/(s.size:Int)<i
 ·rw[Cs9 hr] at h;cases h
 ·obtain⟨k,rfl⟩:∃k:Nat,i=k:=⟨i.toNat,by omega⟩
  have hk:k<=s.size:=by omega
  obtain⟨⟨x,y,c⟩,hg⟩:∃r,Bj7 (s.data.toList.drop k)=r:=⟨_,rfl⟩
  have h2:=Aq7 hk hg
  rw[h2] at h
  by_cases hc:c=0
  ·subst hc
   simp only[if_true] at h
   cases h
   have:=Du9 (l:=s.data.toList.drop k) (by rw[hg])
   rw[hg,List.length_drop,Aa1] at this
   obtain⟨h3,h4,h5,h6⟩:=this
   simp only at h3 h4 h5 h6
   exact⟨k,y,rfl,rfl,h3,by omega,h5,h6⟩
  ·simp only[if_neg hc] at h
   cases h;exact absurd rfl hc
theorem Aj4{s:ByteArray}{a r:List UInt8}{n:Nat}(hn:n<18446744073709551616)(hs:s.data.toList=a++Aa4 n++r):Aa2 s ((a.length:Nat):Int)=(n,(((a++Aa4 n).length:Nat):Int),0):=by
 have Aa:s.size=a.length+(Aa4 n).length+r.length:=by
  rw[←Aa1,hs,Q5,Q5]
 have hd:s.data.toList.drop a.length=Aa4 n++r:=by rw[hs,List.append_assoc,List.drop_left]
 have hg:Bj7 (s.data.toList.drop a.length)=(n,(Aa4 n).length,0):=by rw[hd];exact Ct1 hn r
 rw[Aq7 (by omega) hg,Q5]
 simp
def dec(s:ByteArray)(n:Nat)(p:Int)(l:List Int):List Int×Nat:=
 if l.length<n then
  if(Aa2 s p).2.2≠0 then([],(Aa2 s p).2.2)
  else if _h:(Aa2 s p).1=0\/n-l.length<(Aa2 s p).1 then([],2)
  else if(Aa2 s (Aa2 s p).2.1).2.2≠0 then([],(Aa2 s (Aa2 s p).2.1).2.2)
  else if l.getLast?=some (Ak0 (Aa2 s (Aa2 s p).2.1).1) then([],2)
  else dec s n (Aa2 s (Aa2 s p).2.1).2.1 (l++List.replicate (Aa2 s p).1 (Ak0 (Aa2 s (Aa2 s p).2.1).1))
 else if p<s.size then([],2) else(l,0)
termination_by n-l.length
decreasing_by
 rw[Q5,List.length_replicate]
 omega
section
variable {s:ByteArray} {n:Nat} {p:Int} {l:List Int}
theorem Eu6{a:Nat}{b:Int}{c:Nat}(h:l.length<n)(hg:Aa2 s p=(a,b,c))(hc:c≠0):dec s n p l=([],c):=by
 rw[dec,if_pos h,hg,if_pos hc]
theorem dec_k{a:Nat}{b:Int}(h:l.length<n)(hg:Aa2 s p=(a,b,0))(hk:a=0\/n-l.length<a):dec s n p l=([],2):=by
 rw[dec,if_pos h,hg,if_neg (by simp),dif_pos hk]
theorem Eu5{a:Nat}{b:Int}{z:Nat}{b':Int}{c:Nat}(h:l.length<n)(hg:Aa2 s p=(a,b,0))(hk:1<=a/\a<=n-l.length)(Aa:Aa2 s b=(z,b',c))(hc:c≠0):dec s n p l=([],c):=by
 rw[dec,if_pos h,hg,if_neg (by simp),dif_neg (by simp only;omega),Aa,if_pos hc]
theorem dec_v{a:Nat}{b:Int}{z:Nat}{b':Int}(h:l.length<n)(hg:Aa2 s p=(a,b,0))(hk:1<=a/\a<=n-l.length)(Aa:Aa2 s b=(z,b',0))(hv:l.getLast?=some (Ak0 z)):dec s n p l=([],2):=by
 rw[dec,if_pos h,hg,if_neg (by simp),dif_neg (by simp only;omega),Aa,if_neg (by simp),if_pos hv]
theorem Dx8{a:Nat}{b:Int}{z:Nat}{b':Int}(h:l.length<n)(hg:Aa2 s p=(a,b,0))(hk:1<=a/\a<=n-l.length)(Aa:Aa2 s b=(z,b',0))(hv:l.getLast?≠some (Ak0 z)):dec s n p l=dec s n b' (l++List.replicate a (Ak0 z)):=by
 rw[dec,if_pos h,hg,if_neg (by simp),dif_neg (by simp only;omega),Aa,if_neg (by simp),if_neg hv]
theorem Cu9(h:¬l.length<n)(hp:p<s.size):dec s n p l=([],2):=by rw[dec,if_neg h,if_pos hp]
theorem Bv6(h:¬l.length<n)(hp:¬p<s.size):dec s n p l=(l,0):=by rw[dec,if_neg h,if_neg hp]
end
def Be9(s:ByteArray)(n:Int):List Int×Nat:=if n<0\/4096<n then([],4) else dec s n.toNat 0 []
theorem Em5{s:ByteArray}{n:Int}(h:n<0\/4096<n):Be9 s n=([],4):=by unfold Be9;rw[if_pos h]
theorem Cj9{s:ByteArray}{n:Nat}(h:n<=4096):Be9 s n=dec s n 0 []:=by unfold Be9;rw[if_neg (by omega),Int.toNat_natCast]
theorem Fe4(s:ByteArray)(n:Nat):∀(m:Nat)(Aa l:List Int)(Ab:List UInt8),Aa.length<=m->I64 Aa->n=l.length+Aa.length->n<18446744073709551616->s.data.toList=Ab++As6 Aa ->
   (Aa=[]\/Aa.head?≠l.getLast?)->dec s n (Ab.length:Nat) l=(l++Aa,0):=by
 intro m
 induction m with
 | zero=>
   intro Aa l Ab hm _ hn _ hs _
   have:Aa=[]:=List.eq_nil_of_length_eq_zero (by omega)
   subst this
   rw[Ai3,List.append_nil] at hs
   rw[Bv6 (by simp at hn;omega) (by rw[←Aa1,hs];omega),List.append_nil]
 | succ m ih=>
   intro Aa l Ab hm hi hn Ac hs Ad
   cases Aa with
   | nil=>exact ih [] l Ab (by simp) hi hn Ac hs (.inl rfl)
   | cons x r=>
     simp only[Q6] at hm hn
     have hf:=Dv2 x r
     have hl:=Ad.resolve_left (by simp)
     rw[An5,Cz3] at hs
     have hz:=Av7 hi.head.1 hi.head.2
     have g1:Aa2 s ((Ab.length:Nat):Int)=(fr x r+1,(((Ab++Aa4 (fr x r+1)).length:Nat):Int),0):=Aj4 (r:=Aa4 (Ai4 x).toNat++As6 (r.drop (fr x r))) (by omega) (by rw[hs];simp only[List.append_assoc])
     have g2:Aa2 s (((Ab++Aa4 (fr x r+1)).length:Nat):Int)=((Ai4 x).toNat,(((Ab++Aa4 (fr x r+1)++Aa4 (Ai4 x).toNat).length:Nat):Int),0):=Aj4 (r:=As6 (r.drop (fr x r))) (zig_lt hi.head) (by rw[hs];simp only[List.append_assoc])
     have ez:Ak0 ((Ai4 x).toNat:Int)=x:=by rw[Int.toNat_of_nonneg hz.1,Bf8]
     rw[Dx8 (by omega) g1 (by omega) g2 (by rw[ez];exact fun e=>hl (by rw[e];rfl)),ez]
     have hd:(r.drop (fr x r)).length=r.length-fr x r:=List.length_drop
     rw[ih (r.drop (fr x r)) _ _ (by omega) (hi.tail.drop _) (by rw[Q5,List.length_replicate];omega) Ac (by rw[hs];simp only[List.append_assoc]) (.inr ?_)]
     ·congr 1
      rw[List.append_assoc]
      congr 1
      rw[List.replicate_succ,List.cons_append,←Ci9 x r,List.take_append_drop]
     ·rw[List.getLast?_append,List.getLast?_replicate,if_neg (by omega)]
      exact Dv3 x r
theorem Em6{l:List Int}(h:l.length<=4096)(hi:I64 l):Be9 (str (As6 l)) (l.length:Nat)=(l,0):=by
 rw[Cj9 h]
 exact Fe4 (str (As6 l)) l.length l.length l [] [] (Q1 _) hi (by simp) (by omega) rfl (by cases l<;>simp)
theorem Em2(s:ByteArray)(n:Nat):∀(m:Nat)(l:List Int)(p:Int)(r:List Int),n-l.length<=m->l.length<=n->dec s n p l=(r,0)->(p=(As6 l).length/\(As6 l).length<=s.size/\As6 l=s.data.toList.take (As6 l).length)->I64 l ->
   As6 r=s.data.toList/\r.length=n/\I64 r:=by
 intro m
 induction m with
 | zero=>
   intro l p r hm hl h ⟨hp,Ab,ht⟩ hi
   have hn:¬l.length<n:=by omega
   by_cases hq:p<s.size
   ·rw[Cu9 hn hq] at h;cases h
   ·rw[Bv6 hn hq] at h
    cases h
    refine⟨?_,by omega,hi⟩
    rw[ht,List.take_of_length_le]
    rw[Aa1];omega
 | succ m ih=>
   intro l p r hm hl h ⟨hp,Ab,ht⟩ hi
   by_cases hn:l.length<n
   ·obtain⟨a,b,c,hg⟩:∃a b c,Aa2 s p=(a,b,c):=⟨_,_,_,rfl⟩
    by_cases hc:c=0
    ·subst hc
     by_cases hk:1<=a/\a<=n-l.length
     ·obtain⟨z,b',c',Aa⟩:∃a' b' c',Aa2 s b=(a',b',c'):=⟨_,_,_,rfl⟩
      by_cases hc2:c'=0
      ·subst hc2
       by_cases hv:l.getLast?=some (Ak0 z)
       ·rw[dec_v hn hg hk Aa hv] at h;cases h
       ·rw[Dx8 hn hg hk Aa hv] at h
        obtain⟨k1,m1,e1,e2,h1,h2,h3,h4⟩:=getR_zero hg
        obtain⟨k2,m2,e3,e4,h5,h6,h7,h8⟩:=getR_zero Aa
        have Ah:(Ai4 (Ak0 (z:Int))).toNat=z:=by rw[Ev9 (by omega)];omega
        have Ag:(As6 l).length=k1:=by omega
        have Af:k2=k1+m1:=by omega
        subst Af
        have Ae:∀(k m:Nat),k+m<=s.size->((s.data.toList.drop k).take m).length=m:=fun k m h=>by rw[List.length_take,List.length_drop,Aa1];omega
        have Ad:As6 (l++List.replicate a (Ak0 z))=s.data.toList.take (k1+m1+m2):=by
         rw[Dw6 _ l a _ (Q1 _) hk.1 hv,Cz3,Ah,h3,h7,ht,Ag,List.take_add,List.take_add,List.append_assoc]
        have Ac:(As6 (l++List.replicate a (Ak0 z))).length=k1+m1+m2:=by rw[Ad,List.length_take,Aa1];omega
        refine ih _ b' r (by rw[Q5,List.length_replicate];omega) (by rw[Q5,List.length_replicate];omega) h ⟨by rw[Ac];omega,by omega,by rw[Ac];exact Ad⟩ ?_
        intro y hy
        rcases List.mem_append.1 hy with hy | hy
        ·exact hi y hy
        ·rw[List.eq_of_mem_replicate hy];exact Er3 (by omega) (by omega)
      ·rw[Eu5 hn hg hk Aa hc2] at h;cases h;exact absurd rfl hc2
     ·rw[dec_k hn hg (by omega)] at h;cases h
    ·rw[Eu6 hn hg hc] at h;cases h;exact absurd rfl hc
   ·exact ih l p r (by omega) hl h ⟨hp,Ab,ht⟩ hi
theorem Cc5{s:ByteArray}{n:Nat}(h:n<=4096){r:List Int}(hd:Be9 s (n:Nat)=(r,0)):As6 r=s.data.toList/\r.length=n/\I64 r:=by
 rw[Cj9 h] at hd
 exact Em2 s n n [] 0 r (by simp) (Nat.zero_le _) hd ⟨by rw[Ai3];rfl,by rw[Ai3];exact Nat.zero_le _,by rw[Ai3];rfl⟩ (fun _ hz=>by simp at hz)
end Go.RL
namespace Go.VB
open RowKit
theorem Ce2(a:Addr)(i j:Nat):(a.add i).add j=a.add (i+j):=by
 unfold Addr.add
 by_cases hi:i=0
 ·subst hi;simp
 ·by_cases hj:j=0
  ·subst hj;simp[hi]
  ·simp[hi,hj,Nat.add_assoc]
theorem Ce1(a:Addr):a.add 0=a:=by unfold Addr.add;simp
theorem RdV.tail{α:Type}{f:α->Value}{w:World}{B c:Nat}{ad:Addr}{l:List α}(h:RdV f w B (.slice (some ad) l.length c) l)(i:Nat)(hi:i<=l.length):
   RdV f w B (.slice (some (ad.add i)) (l.length-i) (c-i)) (l.drop i):=by
 obtain⟨A',c',hv,hc,hm,hr⟩:=h
 cases hv
 refine⟨_,c-i,by rw[List.length_drop],by rw[List.length_drop];omega,by omega,fun j x hx=>⟨_,rfl,?_⟩⟩
 rw[List.getElem?_drop] at hx
 obtain⟨Aa,h1,h2,h3⟩:=hr (i+j) x hx
 cases h1
 exact⟨by rw[block_add];exact h2,by rw[Ce2];exact h3⟩
theorem OwnV.made0{α:Type}(f:α->Value)(z:Value)(e:TypeId)(w:World)(base n:Nat)(hb:base<=w.heap.size)(hm:n<=maxLen):
   OwnV f e (w.alloc (.cells (madeCells #[z] n) e)) base (.slice (some ⟨w.heap.size,0,none⟩) 0 n) []:=
 World.ownsRow_made w _ n hb hm (by rw[size_madeCells,Nat.mul_one])
section
variable {P:Program}
end
end Go.VB
namespace Go.P
open RowKit VB VarM RL
end Go.P
namespace Go.P
open RowKit VB VarM RL
theorem Bq9{x:Int}(h:-9223372036854775808<=x/\x<=9223372036854775807):∃z:Nat,Ai4 x=z/\(Ai4 x).toNat=z/\z<18446744073709551616:=
 ⟨(Ai4 x).toNat,by rw[Int.toNat_of_nonneg (Av7 h.1 h.2).1],rfl,zig_lt h⟩
end Go.P
namespace Go.P
open RowKit VB VarM RL
end Go.P
namespace Go.P
open RowKit VB VarM RL
theorem Bc1{P:Program}(a b:List UInt8)(h:a.length+b.length<=4611686018427387904)(w:World):(Op.stringOp .add (str a) (str b)).run P w=.ok (.string (str (a++b))) w:=by
 rw[run_string_add_sum w (str a) (str b) (by rw[Aa3,Aa3];omega),Ab8]
theorem Cg4(v:Value)(l:List Int)(B:Nat)(w:World)(hr:RdV (Value.int .i64) w B v l)(hB:B<=w.heap.size)(hi:I64 l)(hl:l.length<=17592186043904):
   Calls Tryz.prog 163 #[v] w (RetB (.string (str (As6 l))) w):=by
 obtain⟨A,c,rfl,Bh,Ay,As⟩:=hr
 have hr:RdV (Value.int .i64) w B (.slice A l.length c) l:=⟨A,c,rfl,Bh,Ay,As⟩
 clear As
 unfold maxLen at Ay
 have HR:=Hd hr;clear hr
 have An:=Cu4 hi
 have HI:=Hd hi;clear hi
 generalize hT:As6 l=T at An
 have HT:=Hd hT;clear hT
 go_enter Tryz.func163,Tryz.ntmps163
 go_wp2
 go_loopw[3,4] (fun v i wr=>∃(bs:List UInt8)(j:Nat),v=.string (str bs)/\i=.int .i64 j/\j<=l.length/\bs++As6 (l.drop j)=T/\Below w.heap.size w wr) (fun _ i _=>l.length-(intOf i).toNat)
 case atStart=>exact⟨[],0,rfl,rfl,Nat.zero_le _,by rw[List.drop_zero,List.nil_append];exact HT.out,Q2 _ _⟩
 case round=>
  obtain⟨bs,j,rfl,rfl,hj,hs,Ab⟩:=hrel
  by_cases hlt:j<l.length
  ·have Af:l[j]?=some l[j]:=Q7 hlt
   obtain⟨h2,h3⟩:=fr_at Af
   rw[Fe0 Af,Cz3] at hs
   have hx:=HI.out.at Af
   obtain⟨z,Ar,Ba,Bd⟩:=Bq9 hx
   have HZ:=fun w=>Ax1 l[j] w hx.1 hx.2
   rw[Ar] at HZ
   rw[Ba] at hs
   have Az:=HR.out.below (Ab.mono hB)
   have Au:=Af
   clear Af Ar Ba hx
   have Bg:∃q,fr l[j] (l.drop j)=q:=⟨_,rfl⟩
   obtain⟨q,hq⟩:=Bg
   rw[hq] at hs h2 h3
   generalize l[j]=x at *
   have Ae:q<18446744073709551616:=by omega
   have Ah:=congrArg List.length hs
   simp only[Q5] at Ah
   have hP:=fun w=>Ac5 q w Ae
   have hZ:=fun w=>Ac5 z w Bd
   have a1:=fun w=>Bc1 (P:=Tryz.prog) (Aa4 q) (Aa4 z) (by omega) w
   have a2:=fun w=>Bc1 (P:=Tryz.prog) bs (Aa4 q++Aa4 z) (by rw[Q5];omega) w
   have Bi:=Nat.le_trans hB Ab.size
   have Aj:=Hd (show IntKind.i64.wrap (q:Int)=(q:Int) from IntWalk.i64_in _ ⟨by omega,by omega⟩)
   have Ak:=Hd (show IntKind.u64.wrap (q:Int)=(q:Int) from IntWalk.u64_in _ ⟨by omega,by omega⟩)
   have A1:=fun w=>Hd (a1 w);have A2:=fun w=>Hd (a2 w)
   have HS:=Hd hs;have HZZ:=fun w=>Hd (HZ w);have HP:=fun w=>Hd (hP w);have HZ':=fun w=>Hd (hZ w);have HQ:=Hd hq;have HX:=Hd Au;have HRD:=Hd Az
   clear hs HZ hP hZ Ah Bd Ae a1 a2 hq Au Az
   go_wp2_with fail
   go_loopw[5] (fun k wk=>∃m:Nat,k=.int .i64 m/\j<=m/\m<=l.length/\m+fr x (l.drop m)=j+q/\Below wr.heap.size wr wk) (fun k _=>l.length-(intOf k).toNat)
   case atStart=>exact⟨j,rfl,Q1 _,hj,by rw[HQ.out],Q2 _ _⟩
   case round=>
    obtain⟨m,rfl,Bk,Bb,Bc,Aa⟩:=hrel
    have Ag:=Hd Bc;clear Bc
    obtain⟨_,_,Bf,_,_,Ai⟩:=HRD.out.below (Aa.mono (Nat.le_trans hB Ab.size))
    cases Bf
    obtain⟨ad,rfl,Bj,Ac⟩:=Ai j _ HX.out
    by_cases hmt:m<l.length
    ·have Al:l[m]?=some l[m]:=Q7 hmt
     obtain⟨_,e1,_,Be⟩:=Ai m _ Al
     cases e1
     have Aw:l[m]=x->fr x (l.drop m)=fr x (l.drop (m+1))+1:=fun e=>Cj0 (by rw[Al,e])
     have Ax:l[m]≠x->fr x (l.drop m)=0:=fun e=>Fd6 Al e
     have Ao:=Hd Aw;have HSP:=Hd Ax
     clear Ai Al Aw Ax
     generalize l[m]=y at Be Ao HSP
     by_cases hy:y=x
     ·subst hy
      have hd:(y==y)=true:=beq_self_eq_true _
      go_wp2_with fail
      go_region
      go_wp2_with fail
      go_roundw
      case rel=>exact⟨m+1,by go_num,by omega,hmt,by have h:=Ag.out;rw[Ao.out (by simp)] at h;omega,Aa.drew⟩
      case measure=>simp[intOf]<;>omega
     ·have hd:(y==x)=false:=beq_eq_false_iff_ne.2 hy
      have he:=HSP.out hy
      have Ad:(m:Int)-(j:Int)=(q:Int):=by have h:=Ag.out;rw[he] at h;omega
      have Ap:=Hd Ad
      clear hy Ao HSP he Ag Ad
      go_wp2_with fail
      go_region
      have Ad:=Ap.out
      replace Aa:=Aa.drew.drew
      have Aq:=Aj.out;have hw2:=Ak.out
      have a1:=fun w=>(A1 w).out;have a2:=fun w=>(A2 w).out
      go_wp2_with fail
      go_region_with(first
       | (go_at_call 48;(with_reducible refine(HP _).out.mono ?_);rintro e w3 ⟨rfl,hb⟩;replace Ac:=(hb.cell (by rw[block_add];have:=Aa.size;omega)).trans Ac;replace Aa:=Aa0 Aa hb;clear hb)
       | (go_at_call 134;(with_reducible refine(HZZ _).out.mono ?_);rintro e w' ⟨rfl,rfl⟩)
       | (go_at_call 48;(with_reducible refine(HZ' _).out.mono ?_);rintro e w5 ⟨rfl,hb⟩;replace Ac:=(hb.cell (by rw[block_add];have:=Aa.size;omega)).trans Ac;replace Aa:=Aa0 Aa hb;clear hb))
      all_goals
       clear A1 A2 a1 a2 HP HZZ HZ' Aq hw2 Aj Ak
       go_wp2_with fail
       go_roundw
       case rel=>exact⟨bs++(Aa4 q++Aa4 z),m,rfl,rfl,Bb,by rw[show m=j+q by omega,←HS.out];simp only[List.append_assoc],Aa0 Ab Aa⟩
       case measure=>simp[intOf]<;>omega
    ·have he:=fr_end (v:=x) (l:=l) (j:=m) (by omega)
     have Ad:(m:Int)-(j:Int)=(q:Int):=by have h:=Ag.out;rw[he] at h;omega
     have Ap:=Hd Ad
     clear he Ag Ad Ai
     go_wp2_with fail
     go_region
     have Ad:=Ap.out
     replace Aa:=Aa.drew.drew
     have Aq:=Aj.out;have hw2:=Ak.out
     have a1:=fun w=>(A1 w).out;have a2:=fun w=>(A2 w).out
     go_wp2_with fail
     go_region_with(first
      | (go_at_call 48;(with_reducible refine(HP _).out.mono ?_);rintro e w3 ⟨rfl,hb⟩;replace Ac:=(hb.cell (by rw[block_add];have:=Aa.size;omega)).trans Ac;replace Aa:=Aa0 Aa hb;clear hb)
      | (go_at_call 134;(with_reducible refine(HZZ _).out.mono ?_);rintro e w' ⟨rfl,rfl⟩)
      | (go_at_call 48;(with_reducible refine(HZ' _).out.mono ?_);rintro e w5 ⟨rfl,hb⟩;replace Ac:=(hb.cell (by rw[block_add];have:=Aa.size;omega)).trans Ac;replace Aa:=Aa0 Aa hb;clear hb))
     all_goals
      clear A1 A2 a1 a2 HP HZZ HZ' Aq hw2 Aj Ak
      go_wp2_with fail
      go_roundw
      case rel=>exact⟨bs++(Aa4 q++Aa4 z),m,rfl,rfl,Bb,by rw[show m=j+q by omega,←HS.out];simp only[List.append_assoc],Aa0 Ab Aa⟩
      case measure=>simp[intOf]<;>omega
  ·have HS:=Hd hs;clear hs
   go_wp2
   go_ret
   have he:l.drop j=[]:=List.drop_eq_nil_of_le (by omega)
   exact RetB.mk (by have h:=HS.out;rw[he,Ai3,List.append_nil] at h;rw[h];rfl) Ab
end Go.P

namespace Go.RL
open RowKit VB VarM
def lenV:Value->Nat
 | .slice _ n _=>n
 | _=>0
theorem Co9(l:List Int)(t:Nat)(v:Int):l++List.replicate t v++[v]=l++List.replicate (t+1) v:=by
 rw[List.append_assoc,←List.replicate_succ']
end Go.RL
namespace Go.P
open RowKit VB VarM RL
theorem Tryz.infI64:(Tryz.prog.info? 2).map (fun i=>(i.zero,i.size,i.bytes))=some (some (.int .i64 0),1,8):=by kernel_rfl
theorem Ah8{fn:Func}{t u v x:Tmp}{P:Program}(h:fn.results=#[.tmp t,.tmp u,.tmp v,.tmp x])(Aa:Array Value)(w:World):
   (results fn Aa).run P w=.ok (.tuple #[Aa.getD t undef,Aa.getD u undef,Aa.getD v undef,Aa.getD x undef]) w:=by
 simp[results,h]
theorem By6 {P:Program} {t e:TypeId} {Aa:Nat} {z:Value} (Ac:z.cells=#[z]) (ht:P.underlying t=some (.slice e)) (Ab:(P.info? e).map (fun i=>(i.zero,i.size,i.bytes))=some (some z,1,Aa))
   (n:Nat) (hb:Aa*n<=281474976710656) (hm:n<=maxLen) (w:World):
   (Instr.makeSlice t (.int .i64 0) (.int .i64 (n:Int))).run P w=.ok (.slice (some ⟨w.heap.size,0,none⟩) 0 n) (w.alloc (.cells (madeCells #[z] n) e)):=by
 obtain⟨i,hi,hz,Ae,Ad⟩:=info_parts Ab
 unfold maxLen at hm
 have h:=run_make (P:=P) w t e i z ht hi hz .i64 .i64 0 n (by omega) (by omega) (by rw[Ad,←Int.natCast_mul];omega) (by omega)
 rw[Int.toNat_natCast,Ae,Nat.mul_one,Ac] at h
 exact h
section
variable (s:ByteArray) (p:Int) (m:Nat) (w:World) (hs:s.size<=maxLen)
include hs
theorem Dt8{a:Nat}{b:Int}{c:Nat}(hg:Aa2 s p=(a,b,c))(hc:c≠0):
   Calls Tryz.prog 239 #[.string s,.int .i64 p,.int .i64 (m:Int)] w (Ret (.tuple #[.int .i64 0,.int .i64 0,.int .i64 0,.int .i64 (c:Int)]) w):=by
 have HG:=Hd (Al0 s p w hs hg)
 have hd:((c:Int)!=0)=true:=by simp;omega
 clear hg hc
 go_enter Tryz.func239,Tryz.ntmps239
 go_wp2_with(go_at_call 180;(with_reducible refine HG.out.mono ?_);rintro e w' ⟨rfl,rfl⟩)
 (try simp only[Exit.inBlock,Exit.then]);refine bodyPost_ret (Ah8 rfl _ _) rfl ?_
 exact Ret.mk rfl
theorem Ej6(hm:m<=1000000){a:Nat}{b:Int}(hg:Aa2 s p=(a,b,0))(hk:a=0\/m<a):
   Calls Tryz.prog 239 #[.string s,.int .i64 p,.int .i64 (m:Int)] w (Ret (.tuple #[.int .i64 0,.int .i64 0,.int .i64 0,.int .i64 2]) w):=by
 have HG:=Hd (Ae7 s p w hs hg)
 clear hg
 by_cases h0:a=0
 ·subst h0
  go_enter Tryz.func239,Tryz.ntmps239
  go_wp2_with(go_at_call 180;(with_reducible refine HG.out.mono ?_);rintro e w' ⟨rfl,rfl⟩)
  (try simp only[Exit.inBlock,Exit.then]);refine bodyPost_ret (Ah8 rfl _ _) rfl ?_
  exact Ret.mk rfl
 ·have hd:((a:Int)==0)=false:=by simp;omega
  have Aa:m<a:=by omega
  clear hk h0
  go_enter Tryz.func239,Tryz.ntmps239
  go_wp2_with(go_at_call 180;(with_reducible refine HG.out.mono ?_);rintro e w' ⟨rfl,rfl⟩)
  (try simp only[Exit.inBlock,Exit.then]);refine bodyPost_ret (Ah8 rfl _ _) rfl ?_
  exact Ret.mk rfl
theorem Dt7(hm:m<=1000000){a:Nat}{b:Int}{z:Nat}{b':Int}{c:Nat}(hg:Aa2 s p=(a,b,0))(hk:1<=a/\a<=m)(Aa:Aa2 s b=(z,b',c))(hc:c≠0):
   Calls Tryz.prog 239 #[.string s,.int .i64 p,.int .i64 (m:Int)] w (Ret (.tuple #[.int .i64 0,.int .i64 0,.int .i64 0,.int .i64 (c:Int)]) w):=by
 have HG:=Hd (Ae7 s p w hs hg);have HG2:=Hd (Al0 s b w hs Aa)
 obtain⟨Ab,Ad⟩:=hk
 have hd:((a:Int)==0)=false:=by simp;omega
 have Ac:((c:Int)!=0)=true:=by simp;omega
 clear hg Aa hc
 go_enter Tryz.func239,Tryz.ntmps239
 go_wp2_with(first
  | (go_at_call 180;(with_reducible refine HG.out.mono ?_);rintro e w' ⟨rfl,rfl⟩)
  | (go_at_call 180;(with_reducible refine HG2.out.mono ?_);rintro e w' ⟨rfl,rfl⟩))
 (try simp only[Exit.inBlock,Exit.then]);refine bodyPost_ret (Ah8 rfl _ _) rfl ?_
 exact Ret.mk rfl
theorem Dt6(hm:m<=1000000){a:Nat}{b:Int}{z:Nat}{b':Int}(hg:Aa2 s p=(a,b,0))(hk:1<=a/\a<=m)(Aa:Aa2 s b=(z,b',0)):
   Calls Tryz.prog 239 #[.string s,.int .i64 p,.int .i64 (m:Int)] w (Ret (.tuple #[.int .i64 (a:Int),.int .i64 (Ak0 z),.int .i64 b',.int .i64 0]) w):=by
 have HG:=Hd (Ae7 s p w hs hg);have HG2:=Hd (Ae7 s b w hs Aa)
 have hz:z<18446744073709551616:=by
  obtain⟨_,_,_,_,_,_,_,h⟩:=getR_zero Aa;exact h
 have HZ:=Hd (Bd3 z w (by omega) (by omega))
 obtain⟨Ab,Ac⟩:=hk
 have hd:((a:Int)==0)=false:=by simp;omega
 clear hg Aa
 go_enter Tryz.func239,Tryz.ntmps239
 go_wp2_with(first
  | (go_at_call 180;(with_reducible refine HG.out.mono ?_);rintro e w' ⟨rfl,rfl⟩)
  | (go_at_call 180;(with_reducible refine HG2.out.mono ?_);rintro e w' ⟨rfl,rfl⟩)
  | (go_at_call 237;(with_reducible refine HZ.out.mono ?_);rintro e w' ⟨rfl,rfl⟩))
 (try simp only[Exit.inBlock,Exit.then]);refine bodyPost_ret (Ah8 rfl _ _) rfl ?_
 exact Ret.mk rfl
end
end Go.P
namespace Go.P
open RowKit VB VarM RL
theorem De3(s:ByteArray)(n:Int)(w:World)(hs:s.size<=140737488351232):
   Calls Tryz.prog 220 #[.string s,.int .i64 n] w (RetVE (Value.int .i64) 2 (Be9 s n).1 (Be9 s n).2 w):=by
 by_cases hn:n<0\/4096<n
 ·rw[Em5 hn]
  rcases hn with hn | hn
  ·go_enter Tryz.func220,Tryz.ntmps220
   go_wp2
   go_ret2
   exact RetVE.mk rfl (OwnV.nil _ _ _ _) (Q2 _ _)
  ·by_cases h0:n<0
   ·omega
   ·go_enter Tryz.func220,Tryz.ntmps220
    go_wp2
    go_ret2
    exact RetVE.mk rfl (OwnV.nil _ _ _ _) (Q2 _ _)
 obtain⟨n,rfl⟩:∃k:Nat,n=k:=⟨n.toNat,by omega⟩
 have Bk:n<=4096:=by omega
 clear hn
 rw[Cj9 Bk]
 have Ba:s.size<=maxLen:=by unfold maxLen;omega
 have Bs:decide ((4096:Int)<(n:Int))=false:=Q3 (by omega)
 have Bh:=By6 (P:=Tryz.prog) (z:=.int .i64 0) rfl Tryz.underlying197 Tryz.infI64 n (by omega) (by unfold maxLen;omega) w
 have Ar:=OwnV.made0 (Value.int .i64) (.int .i64 0) 2 w w.heap.size n (Q1 _) (by unfold maxLen;omega)
 have Bf:Below w.heap.size w (w.alloc (.cells (madeCells #[.int .i64 0] n) 2)):=(Q2 _ _).alloc (Q1 _) _
 have Br:=w.heap.size
 generalize hR:dec s n 0 []=R
 have HR:=Hd hR;clear hR
 have HV:∀g:Nat,(Value.slice (some ⟨g,0,none⟩) 0 n:Value)=Value.slice (some ⟨g,0,none⟩) 0 n:=fun _=>rfl
 generalize hW:(w.alloc (.cells (madeCells #[.int .i64 0] n) 2))=W1 at Ar Bf
 rw[hW] at Bh
 clear hW
 go_enter Tryz.func220,Tryz.ntmps220
 go_wp2_with fail
 clear Bh
 go_loopw[6,7] (fun v a wr=>∃(ls:List Int)(p:Nat),a=.int .i64 p/\p<=s.size/\OwnV (Value.int .i64) 2 wr w.heap.size v ls/\ls.length<=n/\dec s n p ls=R/\Below w.heap.size w wr) (fun v _ _=>n-lenV v)
 case atStart=>exact⟨[],0,rfl,Nat.zero_le _,Ar,Nat.zero_le _,HR.out,Bf⟩
 case round=>
  obtain⟨ls,p,rfl,hp,Ak,Bl,Ax,Ad⟩:=hrel
  have HD:=Hd Ax;clear Ax
  obtain⟨A,c,rfl,Bt,Bj,Ai⟩:=Ak.read
  have An:=Hd Ak;clear Ak
  unfold maxLen at Bj
  by_cases hlt:ls.length<n
  ·obtain⟨a,b,c1,hg⟩:∃a b c,Aa2 s p=(a,b,c):=⟨_,_,_,rfl⟩
   by_cases hc0:c1=0
   ·subst hc0
    by_cases hk:1<=a/\a<=n-ls.length
    ·obtain⟨z,b',c2,Ah⟩:∃a' b' c',Aa2 s b=(a',b',c'):=⟨_,_,_,rfl⟩
     by_cases hc3:c2=0
     ·subst hc3
      obtain⟨p',Bi,Bg⟩:∃p':Nat,b'=p'/\p'<=s.size:=by
       obtain⟨k,m,_,h2,_,h3,_⟩:=getR_zero Ah
       exact⟨k+m,by omega,h3⟩
      subst Bi
      have HC:=Hd (Dt6 s p (n-ls.length) wr Ba (by omega) hg hk Ah)
      have Aa:((n-ls.length:Nat):Int)=(n:Int)-(ls.length:Int):=by omega
      rw[Aa] at HC
      have HG:=Hd hg;have HG2:=Hd Ah
      have Az:=Hd (Dx8 (s:=s) (l:=ls) hlt hg hk Ah)
      have Bb:=Hd (dec_v (s:=s) (l:=ls) hlt hg hk Ah)
      obtain⟨Bm,Bp⟩:=hk
      clear hg Ah Aa
      generalize Ak0 (z:Int)=V at *
      by_cases hne:ls.length=0
      ·have As:ls=[]:=List.eq_nil_of_length_eq_zero hne
       have Ao:=Hd ((Az.out (by rw[As];simp)).symm.trans HD.out)
       have Bo:ls.length<=0:=by omega
       clear Az Bb HD Ai hne As
       clear HG HG2
       go_wp2_with(go_at_call 239;(with_reducible refine HC.out.mono ?_);rintro e w' ⟨rfl,rfl⟩)
       clear HC
       go_loopw[6,53] (fun v t wk=>∃j:Nat,t=.int .i64 j/\j<=a/\OwnV (Value.int .i64) 2 wk w.heap.size v (ls++List.replicate j V)/\Below w.heap.size w wk) (fun _ t _=>a-(intOf t).toNat)
       case atStart=>exact⟨0,rfl,Nat.zero_le _,by rw[List.replicate_zero,List.append_nil];exact An.out,Ad⟩
       case round=>
        obtain⟨j,rfl,hj,Ab,Ac⟩:=hrel
        have Ag:(ls++List.replicate j V).length=ls.length+j:=by rw[Q5,List.length_replicate]
        have Al:=Ac.size
        by_cases hja:j<a
        ·have Aj:=Hd Ag
         have Au:(ls++List.replicate j V).length<=4096:=by omega
         have Aw:=Hd Au;clear Ag Au
         go_wp2_with(at_builtin;refine Ad0 (f:=Value.int .i64) (fun _=>rfl) (.int .i64 0) rfl rfl _ _ 197 rfl w.heap.size 2 8 Tryz.underlying197 Tryz.infI64 _ (ls++List.replicate j V) rfl (Ab.alloc _) _ _ [V] rfl (RdV.one _ _ _ _ _ (by decide) (by decide)) (by have:=Aw.out;unfold maxLen;simp only[Q6,Q8];omega) (by have:=Aw.out;simp only[Q6,Q8];omega) (by simp;omega) ?_)
         intro v' w' Ae Bc _
         go_wp2_with fail
         go_roundw
         case rel=>exact⟨j+1,by go_num,hja,by rw[←Co9,List.append_assoc];exact Ae,(Ac.alloc Al _).trans Bc⟩
         case measure=>simp[intOf]<;>omega
        ·have Ay:j=a:=by omega
         have Bd:=Hd Ay;clear Ay
         have Af:dec s n p' (ls++List.replicate a V)=R:=Ao.out
         have HF:=Hd Af;clear Af
         obtain⟨A',c',Aq,_,_,_⟩:=Ab.read
         have Be:=Hd Aq;have Aj:=Hd Ag;clear Aq Ag
         go_wp2_with fail
         go_roundw
         case rel=>exact⟨ls++List.replicate j V,p',rfl,Bg,Ab,by rw[Aj.out];omega,by rw[Bd.out];exact HF.out,Ac⟩
         case measure=>rw[Be.out];simp only[lenV];rw[Aj.out];omega
      ·obtain⟨V0,Ap⟩:∃V0,ls[ls.length-1]?=some V0:=⟨_,Q7 (by omega)⟩
       obtain⟨ad,rfl,_,Bn⟩:=Ai _ _ Ap
       rw[←List.getLast?_eq_getElem?] at Ap
       have Bq:1<=ls.length:=by omega
       clear hne Ai
       by_cases hv:V0=V
       ·subst hv
        have hR:=(Bb.out Ap).symm.trans HD.out
        have HR:=Hd hR
        have hd:(V0==V0)=true:=beq_self_eq_true _
        clear Ap Bb Az HD hR
        go_wp2_with(go_at_call 239;(with_reducible refine HC.out.mono ?_);rintro e w' ⟨rfl,rfl⟩)
        go_ret2
        rw[←HR.out]
        exact RetVE.mk rfl (OwnV.nil _ _ _ _) Ad
       ·have Ao:=Hd ((Az.out (by rw[Ap];simpa using hv)).symm.trans HD.out)
        have hd:(V0==V)=false:=beq_eq_false_iff_ne.2 hv
        clear Az Bb HD Ap hv
        clear HG HG2
        go_wp2_with(go_at_call 239;(with_reducible refine HC.out.mono ?_);rintro e w' ⟨rfl,rfl⟩)
        clear HC
        go_loopw[6,53] (fun v t wk=>∃j:Nat,t=.int .i64 j/\j<=a/\OwnV (Value.int .i64) 2 wk w.heap.size v (ls++List.replicate j V)/\Below w.heap.size w wk) (fun _ t _=>a-(intOf t).toNat)
        case atStart=>exact⟨0,rfl,Nat.zero_le _,by rw[List.replicate_zero,List.append_nil];exact An.out,Ad⟩
        case round=>
         obtain⟨j,rfl,hj,Ab,Ac⟩:=hrel
         have Ag:(ls++List.replicate j V).length=ls.length+j:=by rw[Q5,List.length_replicate]
         have Al:=Ac.size
         by_cases hja:j<a
         ·have Aj:=Hd Ag
          have Au:(ls++List.replicate j V).length<=4096:=by omega
          have Aw:=Hd Au;clear Ag Au
          go_wp2_with(at_builtin;refine Ad0 (f:=Value.int .i64) (fun _=>rfl) (.int .i64 0) rfl rfl _ _ 197 rfl w.heap.size 2 8 Tryz.underlying197 Tryz.infI64 _ (ls++List.replicate j V) rfl (Ab.alloc _) _ _ [V] rfl (RdV.one _ _ _ _ _ (by decide) (by decide)) (by have:=Aw.out;unfold maxLen;simp only[Q6,Q8];omega) (by have:=Aw.out;simp only[Q6,Q8];omega) (by simp;omega) ?_)
          intro v' w' Ae Bc _
          go_wp2_with fail
          go_roundw
          case rel=>exact⟨j+1,by go_num,hja,by rw[←Co9,List.append_assoc];exact Ae,(Ac.alloc Al _).trans Bc⟩
          case measure=>simp[intOf]<;>omega
         ·have Ay:j=a:=by omega
          have Bd:=Hd Ay;clear Ay
          have Af:dec s n p' (ls++List.replicate a V)=R:=Ao.out
          have HF:=Hd Af;clear Af
          obtain⟨A',c',Aq,_,_,_⟩:=Ab.read
          have Be:=Hd Aq;have Aj:=Hd Ag;clear Aq Ag
          go_wp2_with fail
          go_roundw
          case rel=>exact⟨ls++List.replicate j V,p',rfl,Bg,Ab,by rw[Aj.out];omega,by rw[Bd.out];exact HF.out,Ac⟩
          case measure=>rw[Be.out];simp only[lenV];rw[Aj.out];omega
     ·have HC:=Hd (Dt7 s p (n-ls.length) wr Ba (by omega) hg hk Ah hc3)
      have Aa:((n-ls.length:Nat):Int)=(n:Int)-(ls.length:Int):=by omega
      rw[Aa] at HC
      have hR:=HD.out
      rw[Eu5 hlt hg hk Ah hc3] at hR
      have HR:=Hd hR
      have hd:((c2:Int)!=0)=true:=by simp;omega
      clear hR Aa Ai hg Ah hc3
      go_wp2_with(go_at_call 239;(with_reducible refine HC.out.mono ?_);rintro e w' ⟨rfl,rfl⟩)
      go_ret2
      rw[←HR.out]
      exact RetVE.mk rfl (OwnV.nil _ _ _ _) Ad
    ·have HC:=Hd (Ej6 s p (n-ls.length) wr Ba (by omega) hg (by omega))
     have Aa:((n-ls.length:Nat):Int)=(n:Int)-(ls.length:Int):=by omega
     rw[Aa] at HC
     have hR:=HD.out
     rw[dec_k hlt hg (by omega)] at hR
     have HR:=Hd hR
     clear hR Aa Ai hg hk
     go_wp2_with(go_at_call 239;(with_reducible refine HC.out.mono ?_);rintro e w' ⟨rfl,rfl⟩)
     go_ret2
     rw[←HR.out]
     exact RetVE.mk rfl (OwnV.nil _ _ _ _) Ad
   ·have HC:=Hd (Dt8 s p (n-ls.length) wr Ba hg hc0)
    have Aa:((n-ls.length:Nat):Int)=(n:Int)-(ls.length:Int):=by omega
    rw[Aa] at HC
    have hR:=HD.out
    rw[Eu6 hlt hg hc0] at hR
    have HR:=Hd hR
    have hd:((c1:Int)!=0)=true:=by simp;omega
    clear hR Aa Ai hg hc0
    go_wp2_with(go_at_call 239;(with_reducible refine HC.out.mono ?_);rintro e w' ⟨rfl,rfl⟩)
    go_ret2
    rw[←HR.out]
    exact RetVE.mk rfl (OwnV.nil _ _ _ _) Ad
  ·by_cases hps:p<s.size
   ·have hR:=HD.out
    rw[Cu9 hlt (by omega)] at hR
    have HR:=Hd hR;clear hR Ai
    go_wp2
    go_ret2
    rw[←HR.out]
    exact RetVE.mk rfl (OwnV.nil _ _ _ _) Ad
   ·have hR:=HD.out
    rw[Bv6 hlt (by omega)] at hR
    have HR:=Hd hR;clear hR Ai
    go_wp2
    go_ret2
    rw[←HR.out]
    exact RetVE.mk rfl An.out Ad
end Go.P
namespace Go.P
open RowKit VB VarM RL
end Go.P
namespace Go.KS
open RowKit VB
end Go.KS
namespace Go.P
open RowKit VB KS
end Go.P
namespace Go.RL
open RowKit VB
end Go.RL
namespace Go.P
open RowKit VB VarM RL KS
end Go.P
