/- Texts of one part, joined. -/
import Derived.Test.YtnmlajmaffiigaaGreatDoorGv
import Derived.Test.YtnmlajmaffiigaaGreatDoorGa
import Derived.Test.YtnmlajmaffiigaaGreatDoorGw
import Derived.Deep.RegionWith
import Derived.Lib.Bytealg
import Derived.Lib.Strings
import Derived.Deep.Slices
set_option linter.constructorNameAsVariable false
set_option maxRecDepth 100000
set_option maxHeartbeats 4000000
open Go Go.Proofs Go.Proofs.YtnmlajmaffiigaaGreatDoor Go.P
namespace Go.VL
open RowKit VB VarM
def Ai9(nul:Bool)(n:Int)(s:ByteArray):List UInt8:=if nul then[0] else[1]++Aa4 (Ai4 n).toNat++Aa4 s.size++s.data.toList
structure GV where
 nul:Bool
 n:Int
 s:ByteArray
 i:Int
 e:Nat
def GV.val(g:GV):Value:=.tuple #[.agg #[.bool g.nul,.int .i64 g.n,.string g.s],.int .i64 g.i,.int .i64 (g.e:Int)]
def gvF(e:Nat):GV:=⟨false,0,⟨#[]⟩,0,e⟩
def Du7(s:ByteArray)(i:Int):GV:=
 if(Aa2 s i).2.2≠0 then gvF (Aa2 s i).2.2
 else if(Aa2 s (Aa2 s i).2.1).2.2≠0 then gvF (Aa2 s (Aa2 s i).2.1).2.2
 else if(s.size:Int)-(Aa2 s (Aa2 s i).2.1).2.1<(Aa2 s (Aa2 s i).2.1).1 then gvF 10
 else⟨false,Ak0 (Aa2 s i).1,s.extract (Aa2 s (Aa2 s i).2.1).2.1.toNat ((Aa2 s (Aa2 s i).2.1).2.1.toNat+(Aa2 s (Aa2 s i).2.1).1),(Aa2 s (Aa2 s i).2.1).2.1+(Aa2 s (Aa2 s i).2.1).1,0⟩
def Ag9(s:ByteArray)(i:Int):GV:=
 if i<0\/(s.size:Int)<i then gvF 4
 else if i=s.size then gvF 10
 else if bN s i.toNat=0 then⟨true,0,⟨#[]⟩,i+1,0⟩
 else if bN s i.toNat=1 then Du7 s (i+1)
 else gvF 2
theorem Bu7{s:ByteArray}{i:Int}(h:(Aa2 s i).2.2=0):0<=(Aa2 s i).2.1/\(Aa2 s i).2.1<=s.size/\(Aa2 s i).1<18446744073709551616:=by
 unfold Aa2 at h⊢
 by_cases hr:i<0\/(s.size:Int)<i
 ·rw[if_pos hr] at h;cases h
 ·rw[if_neg hr] at h⊢
  by_cases h0:(Bj7 (s.data.toList.drop i.toNat)).2.2=0
  ·simp only[h0,if_true]
   obtain⟨h1,h2,_,h4⟩:=Du9 h0
   rw[List.length_drop,Aa1] at h2
   exact⟨by omega,by omega,h4⟩
  ·simp only[h0,if_false] at h
theorem Eh6(s:ByteArray)(k:Nat)(h:k<s.size):(s.extract k (k+1)).toList=[UInt8.ofNat (bN s k)]:=by
 rw[ByteArray.toList_eq,Ad3,show k+1-k=1 from by omega]
 unfold bN
 rw[List.take_one,List.head?_drop,List.getD_eq_getElem?_getD,Q7 (by rw[Aa1];exact h)]
 simp
end Go.VL
namespace Go.P
open RowKit VB VL VarM
theorem Ek4(s:ByteArray)(i:Int)(w:World)(hs:s.size<=4611686018427387904):Calls Tryz.prog 216 #[.string s,.int .i64 i] w (RetB (Du7 s i).val w):=by
 have H1:=fun w=>Hd (Br5 s i w (by unfold maxLen;omega))
 have hP:Du7 s i=if(Aa2 s i).2.2≠0 then gvF (Aa2 s i).2.2
  else if(Aa2 s (Aa2 s i).2.1).2.2≠0 then gvF (Aa2 s (Aa2 s i).2.1).2.2
  else if(s.size:Int)-(Aa2 s (Aa2 s i).2.1).2.1<(Aa2 s (Aa2 s i).2.1).1 then gvF 10
  else⟨false,Ak0 (Aa2 s i).1,s.extract (Aa2 s (Aa2 s i).2.1).2.1.toNat ((Aa2 s (Aa2 s i).2.1).2.1.toNat+(Aa2 s (Aa2 s i).2.1).1),(Aa2 s (Aa2 s i).2.1).2.1+(Aa2 s (Aa2 s i).2.1).1,0⟩:=rfl
 rw[hP];clear hP
 by_cases e1:(Aa2 s i).2.2=0
 ·rw[if_neg (by simpa using e1)]
  obtain⟨b1,b2,b3⟩:=Bu7 e1
  have H2:=fun w=>Hd (Br5 s (Aa2 s i).2.1 w (by unfold maxLen;omega))
  have HZ:=fun w=>Hd (Bd3 ((Aa2 s i).1:Int) w (by omega) (by omega))
  have Ab:Ew5 (Aa2 s i)=.tuple #[.int .u64 ((Aa2 s i).1:Nat),.int .i64 (Aa2 s i).2.1,.int .i64 0]:=by unfold Ew5;rw[e1];rfl
  rw[Ab] at H1
  clear Ab e1
  generalize (Aa2 s i).2.1=i1 at *
  generalize Ak0 ((Aa2 s i).1:Int)=z at *
  generalize (Aa2 s i).1=n1 at *
  by_cases e2:(Aa2 s i1).2.2=0
  ·rw[if_neg (by simpa using e2)]
   obtain⟨c1,c2,c3⟩:=Bu7 e2
   have Aa:Ew5 (Aa2 s i1)=.tuple #[.int .u64 ((Aa2 s i1).1:Nat),.int .i64 (Aa2 s i1).2.1,.int .i64 0]:=by unfold Ew5;rw[e2];rfl
   rw[Aa] at H2
   clear Aa e2
   generalize (Aa2 s i1).2.1=i2 at *
   generalize (Aa2 s i1).1=m at *
   obtain⟨k,rfl⟩:=Int.eq_ofNat_of_zero_le c1
   have hk:k<=s.size:=by omega
   clear c1 c2 b1 b2 b3
   by_cases h3:(s.size:Int)-k<m
   ·rw[if_pos h3]
    have hd:decide ((s.size:Int)-k<m)=true:=Q4 h3
    have hu:IntKind.u64.wrap ((s.size:Int)-k)=(s.size:Int)-k:=IntWalk.u64_in _ ⟨by omega,by omega⟩
    go_enter Tryz.func216,Tryz.ntmps216
    go_wp2_with(first | (go_at_call 180;(with_reducible refine(H1 _).out.mono ?_);rintro e w' ⟨rfl,rfl⟩) | (go_at_call 180;(with_reducible refine(H2 _).out.mono ?_);rintro e w' ⟨rfl,rfl⟩))
    refine bodyPost_ret (v:=(gvF 10).val) (by simp[GV.val,gvF,results,Tryz.results216,go_sem]) rfl ?_
    exact RetB.mk rfl (by go_grown)
   ·rw[if_neg h3]
    have hm:k+m<=s.size:=by omega
    have hd:decide ((s.size:Int)-k<m)=false:=Q3 h3
    have hu:IntKind.u64.wrap ((s.size:Int)-k)=(s.size:Int)-k:=IntWalk.u64_in _ ⟨by omega,by omega⟩
    clear h3
    go_enter Tryz.func216,Tryz.ntmps216
    go_wp2_with(first | (go_at_call 180;(with_reducible refine(H1 _).out.mono ?_);rintro e w' ⟨rfl,rfl⟩) | (go_at_call 180;(with_reducible refine(H2 _).out.mono ?_);rintro e w' ⟨rfl,rfl⟩))
    go_region_with(go_at_call 237;refine(HZ _).out.mono ?_;rintro e w' ⟨rfl,rfl⟩)
    all_goals
     go_wp2
     refine bodyPost_ret (v:=.tuple #[.agg #[.bool false,.int .i64 z,.string (s.extract k (k+m))],.int .i64 ((k:Int)+m),.int .i64 0]) (by simp[results,Tryz.results216,go_sem]) rfl ?_
     exact RetB.mk rfl (by go_grown)
  ·rw[if_pos e2]
   have Aa:Ew5 (Aa2 s i1)=.tuple #[.int .u64 ((Aa2 s i1).1:Nat),.int .i64 (Aa2 s i1).2.1,.int .i64 ((Aa2 s i1).2.2:Nat)]:=rfl
   rw[Aa] at H2
   generalize (Aa2 s i1).2.2=c at *
   have hc:((c:Int)!=0)=true:=Ab5 (by omega)
   clear Aa e2
   go_enter Tryz.func216,Tryz.ntmps216
   go_wp2_with(first | (go_at_call 180;(with_reducible refine(H1 _).out.mono ?_);rintro e w' ⟨rfl,rfl⟩) | (go_at_call 180;(with_reducible refine(H2 _).out.mono ?_);rintro e w' ⟨rfl,rfl⟩))
   refine bodyPost_ret (v:=(gvF c).val) (by simp[GV.val,gvF,results,Tryz.results216,go_sem]) rfl ?_
   exact RetB.mk rfl (by go_grown)
 ·rw[if_pos e1]
  have Ab:Ew5 (Aa2 s i)=.tuple #[.int .u64 ((Aa2 s i).1:Nat),.int .i64 (Aa2 s i).2.1,.int .i64 ((Aa2 s i).2.2:Nat)]:=rfl
  rw[Ab] at H1
  generalize (Aa2 s i).2.2=c at *
  have hc:((c:Int)!=0)=true:=Ab5 (by omega)
  clear Ab e1
  go_enter Tryz.func216,Tryz.ntmps216
  go_wp2_with(go_at_call 180;(with_reducible refine(H1 _).out.mono ?_);rintro e w' ⟨rfl,rfl⟩)
  refine bodyPost_ret (v:=(gvF c).val) (by simp[GV.val,gvF,results,Tryz.results216,go_sem]) rfl ?_
  exact RetB.mk rfl (by go_grown)
theorem As5(s:ByteArray)(i:Int)(w:World)(hs:s.size<=4611686018427387904):Calls Tryz.prog 182 #[.string s,.int .i64 i] w (RetB (Ag9 s i).val w):=by
 have HP:=fun w=>Hd (Ek4 s (i+1) w hs)
 unfold Ag9
 by_cases h0:i<0
 ·rw[if_pos (.inl h0)]
  go_enter Tryz.func182,Tryz.ntmps182
  go_wp2
  refine bodyPost_ret (v:=(gvF 4).val) (by simp[GV.val,gvF,results,Tryz.results182,go_sem]) rfl ?_
  exact RetB.mk rfl (by go_grown)
 obtain⟨k,rfl⟩:=Int.eq_ofNat_of_zero_le (Int.not_lt.1 h0)
 by_cases h1:s.size<k
 ·rw[if_pos (.inr (by omega))]
  clear h0
  go_enter Tryz.func182,Tryz.ntmps182
  go_wp2
  refine bodyPost_ret (v:=(gvF 4).val) (by simp[GV.val,gvF,results,Tryz.results182,go_sem]) rfl ?_
  exact RetB.mk rfl (by go_grown)
 rw[if_neg (by omega)]
 by_cases h2:k=s.size
 ·rw[if_pos (by omega)]
  subst h2
  clear h0 h1
  go_enter Tryz.func182,Tryz.ntmps182
  go_wp2
  refine bodyPost_ret (v:=(gvF 10).val) (by simp[GV.val,gvF,results,Tryz.results182,go_sem]) rfl ?_
  exact RetB.mk rfl (by go_grown)
 rw[if_neg (by omega)]
 have hk:k<s.size:=by omega
 have Ae:((k:Int)==(s.size:Int))=false:=Ab3 (by omega)
 have hx:=Eh6 s k hk
 have Ad:=Ah2 s k
 rw[Int.toNat_natCast]
 clear h0 h1 h2
 generalize bN s k=b at *
 by_cases hb0:b=0
 ·subst hb0
  rw[if_pos rfl]
  have ht:((s.extract k (k+1)).toList==[0])=true:=by rw[hx];rfl
  clear hx HP
  go_enter Tryz.func182,Tryz.ntmps182
  go_wp2
  refine bodyPost_ret (v:=.tuple #[.agg #[.bool true,.int .i64 0,.string ⟨#[]⟩],.int .i64 ((k:Int)+1),.int .i64 0]) (by simp[results,Tryz.results182,go_sem]) rfl ?_
  exact RetB.mk rfl (by go_grown)
 rw[if_neg hb0]
 have Af:((s.extract k (k+1)).toList==[0])=false:=by
  rw[hx]
  refine beq_eq_false_iff_ne.2 fun h=>hb0 ?_
  simp at h
  have:=congrArg UInt8.toNat h
  simp at this;omega
 by_cases hb1:b=1
 ·subst hb1
  rw[if_pos rfl]
  have ht:((s.extract k (k+1)).toList==[1])=true:=by rw[hx];rfl
  have HG:(Du7 s ((k:Int)+1)).val=.tuple #[.agg #[.bool (Du7 s ((k:Int)+1)).nul,.int .i64 (Du7 s ((k:Int)+1)).n,.string (Du7 s ((k:Int)+1)).s],.int .i64 (Du7 s ((k:Int)+1)).i,.int .i64 ((Du7 s ((k:Int)+1)).e:Int)]:=rfl
  rw[HG] at HP
  rw[HG]
  generalize Du7 s ((k:Int)+1)=g at *
  obtain⟨Aa,n,t,i,e⟩:=g
  clear hx HG hb0
  go_enter Tryz.func182,Tryz.ntmps182
  go_wp2_with fail
  refine(HP _).out.mono ?_
  rintro e w' ⟨rfl,hb⟩
  have V:=(Var3.new w (.bool false) (.int .i64 0) (.string ⟨#[]⟩) 49).step hb
  have hB:=Aa0 ((Q2 w.heap.size w).alloc (Q1 _) _) hb
  obtain⟨k0,k1,k2,f0,f1,f2⟩:=V
  clear hb HP
  go_wp2
  have V':=Var3.set ⟨k0,k1,k2,f0,f1,f2⟩ (.bool Aa) (.int .i64 n) (.string t)
  have Ab:=Ae1 hB (Q1 _) (.bool Aa) (.int .i64 n) (.string t)
  generalize ((w'.setCell ⟨w.heap.size,0,none⟩ (.bool Aa)).setCell ⟨w.heap.size,1,none⟩ (.int .i64 n)).setCell ⟨w.heap.size,2,none⟩ (.string t)=w9 at *
  obtain⟨m0,m1,m2,_,_,_⟩:=V'
  refine bodyPost_ret (v:=.tuple #[.agg #[.bool Aa,.int .i64 n,.string t],.int .i64 i,.int .i64 (e:Int)]) (by simp[results,Tryz.results182,go_sem,m0,m1,m2]) rfl ?_
  exact RetB.mk rfl Ab
 ·rw[if_neg hb1]
  have Ac:((s.extract k (k+1)).toList==[1])=false:=by
   rw[hx]
   refine beq_eq_false_iff_ne.2 fun h=>hb1 ?_
   simp at h
   have:=congrArg UInt8.toNat h
   simp at this;omega
  clear hx HP hb0 hb1
  go_enter Tryz.func182,Tryz.ntmps182
  go_wp2
  refine bodyPost_ret (v:=(gvF 2).val) (by simp[GV.val,gvF,results,Tryz.results182,go_sem]) rfl ?_
  exact RetB.mk rfl (by go_grown)
end Go.P
namespace Go.VL
open RowKit VB VarM
theorem Cw0(a b:Int):cmpI b a = -cmpI a b:=by unfold cmpI;split<;>split<;>(try split)<;>omega
theorem Bw2{a b:Int}:cmpI a b<=0↔a<=b:=by unfold cmpI;split<;>(try split)<;>omega
theorem less_trans:∀(a b c:List UInt8),Go.Op.bytesLess a b=true->Go.Op.bytesLess b c=true->Go.Op.bytesLess a c=true
 | _,[],[],_,h=>by simp[Go.Op.bytesLess] at h
 | [],[],_::_,h,_=>by simp[Go.Op.bytesLess] at h
 | [],_::_,[],_,h=>by simp[Go.Op.bytesLess] at h
 | [],_::_,_::_,_,_=>rfl
 | _::_,[],_,h,_=>by simp[Go.Op.bytesLess] at h
 | _::_,_::_,[],_,h=>by simp[Go.Op.bytesLess] at h
 | a::l,b::m,c::n,h1,h2=>by
   simp only[Go.Op.bytesLess,Bool.or_eq_true,decide_eq_true_eq,Bool.and_eq_true,beq_iff_eq] at h1 h2⊢
   rcases h1 with h1 | ⟨rfl,h1⟩
   ·rcases h2 with h2 | ⟨rfl,_⟩
    ·left
     have Aa:a.toNat<b.toNat:=h1
     have Ab:b.toNat<c.toNat:=h2
     exact(show a.toNat<c.toNat by omega)
    ·exact .inl h1
   ·rcases h2 with h2 | ⟨rfl,h2⟩
    ·exact .inl h2
    ·exact .inr ⟨rfl,less_trans l m n h1 h2⟩
theorem toList_inj{s t:ByteArray}(h:s.toList=t.toList):s=t:=by
 rw[ByteArray.toList_eq,ByteArray.toList_eq] at h
 exact Go.WideShapes.bytes_inj h
theorem Bb2(s t:ByteArray):(Go.Op.bytesLess s.toList t.toList=true/\Bd1 s t = -1)\/(s=t/\Bd1 s t=0)\/(Go.Op.bytesLess t.toList s.toList=true/\Bd1 s t=1):=by
 rcases less_tri s.toList t.toList with h | h | h
 ·left;exact⟨h,by unfold Bd1;rw[if_pos h]⟩
 ·right;left
  obtain rfl:=toList_inj h
  exact⟨rfl,by unfold Bd1;rw[less_irr];rfl⟩
 ·right;right
  exact⟨h,by unfold Bd1;rw[Bi8 _ _ h];simp[h]⟩
theorem Eo6(s t:ByteArray):Bd1 t s = -Bd1 s t:=by
 rcases Bb2 s t with⟨h,e⟩ | ⟨rfl,e⟩ | ⟨h,e⟩
 ·rw[e];unfold Bd1;rw[Bi8 _ _ h];simp[h]
 ·rw[e];rfl
 ·rw[e];unfold Bd1;rw[if_pos h]
theorem Ff4{s t u:ByteArray}(h1:Bd1 s t<=0)(h2:Bd1 t u<=0):Bd1 s u<=0:=by
 rcases Bb2 s t with⟨h,e⟩ | ⟨rfl,e⟩ | ⟨h,e⟩
 ·rcases Bb2 t u with⟨h',e'⟩ | ⟨rfl,e'⟩ | ⟨h',e'⟩
  ·have:=less_trans _ _ _ h h'
   unfold Bd1;rw[if_pos this];decide
  ·exact h1
  ·omega
 ·exact h2
 ·omega
theorem Cv9(ty:Int)(x:Bool)(n:Int)(s:ByteArray)(y:Bool)(m:Int)(t:ByteArray):-1<=cmp ty x n s y m t/\cmp ty x n s y m t<=1:=by
 have h1:-1<=cmpI n m/\cmpI n m<=1:=by unfold cmpI;split<;>(try split)<;>omega
 have h2:-1<=Bd1 s t/\Bd1 s t<=1:=by unfold Bd1;split<;>(try split)<;>omega
 unfold cmp
 cases x<;>cases y<;>simp
 split<;>assumption
theorem Bk7(ty:Int)(x:Bool)(n:Int)(s:ByteArray)(y:Bool)(m:Int)(t:ByteArray):cmp ty y m t x n s = -cmp ty x n s y m t:=by
 unfold cmp
 cases x<;>cases y<;>simp
 split
 ·exact Eo6 s t
 ·exact Cw0 n m
theorem Cv8{ty:Int}{x:Bool}{n:Int}{s:ByteArray}{y:Bool}{m:Int}{t:ByteArray}{z:Bool}{k:Int}{u:ByteArray}(h1:cmp ty x n s y m t<=0)(h2:cmp ty y m t z k u<=0):cmp ty x n s z k u<=0:=by
 unfold cmp at *
 cases x<;>cases y<;>cases z<;>simp at *
 split at h1
 ·rename_i h3
  rw[if_pos h3] at h2⊢
  exact Ff4 h1 h2
 ·rename_i h3
  rw[if_neg h3] at h2⊢
  rw[Bw2] at *
  omega
end Go.VL
namespace Go.P
open RowKit VB VL VarM
theorem Bb1(a p r:List UInt8)(k:Nat)(hk:k<18446744073709551616)(hp:p=Aa4 k):Aa2 (str (a++(p++r))) (a.length:Nat)=(k,(a.length:Int)+p.length,0):=by
 subst hp
 have h:=Aq7 (s:=str (a++(Aa4 k++r))) (k:=a.length) (by rw[Aa3];simp) (r:=(k,(Aa4 k).length,0)) (by rw[Ab7,List.drop_left];exact Ct1 hk r)
 simpa using h
theorem Bu6(a r:List UInt8)(Aa:Bool)(n:Int)(s:ByteArray)(hn:(Lit.int .i64 n).wf=true)(hs:s.size<=140737488355328)(h0:Aa=true->n=0/\s=⟨#[]⟩):
   Ag9 (str (a++(Ai9 Aa n s++r))) (a.length:Nat)=⟨Aa,n,s,(a.length:Int)+(Ai9 Aa n s).length,0⟩:=by
 have hb:∀c l,bN (str (a++(c::l))) a.length=c.toNat:=fun c l=>by
  rw[Cx0,List.getD_eq_getElem?_getD,List.getElem?_append_right (Q1 _)];simp
 unfold Ag9
 cases Aa
 ·obtain⟨n1,n2⟩:=bounds_i64 hn
  obtain⟨z1,z2⟩:=Av7 n1 n2
  obtain⟨k,hk⟩:=Int.eq_ofNat_of_zero_le z1
  have hp:Ai9 false n s=1::(Aa4 k++(Aa4 s.size++s.data.toList)):=by
   show[1]++Aa4 (Ai4 n).toNat++Aa4 s.size++s.data.toList=_
   rw[hk];simp
  rw[hp]
  have hl:(str (a++(1::(Aa4 k++(Aa4 s.size++s.data.toList))++r))).size=a.length+(1+((Aa4 k).length+((Aa4 s.size).length+s.size))+r.length):=by
   rw[Aa3];simp;omega
  rw[if_neg (by rw[hl];omega),if_neg (by rw[hl];omega),Int.toNat_natCast,List.cons_append,hb,if_neg (by decide),if_pos (by decide)]
  have e1:=Bb1 (a++[1]) (Aa4 k) (Aa4 s.size++s.data.toList++r) k (by omega) rfl
  have e2:=Bb1 (a++[1]++Aa4 k) (Aa4 s.size) (s.data.toList++r) s.size (by omega) rfl
  have hS:str (a++1::(Aa4 k++(Aa4 s.size++s.data.toList)++r))=str (a++[1]++(Aa4 k++(Aa4 s.size++s.data.toList++r))):=by simp
  have Ab:str (a++[1]++(Aa4 k++(Aa4 s.size++s.data.toList++r)))=str (a++[1]++Aa4 k++(Aa4 s.size++(s.data.toList++r))):=by simp
  have i1:(a.length:Int)+1=((a++[1]).length:Nat):=by simp
  have i2:((a++[1]).length:Int)+(Aa4 k).length=((a++[1]++Aa4 k).length:Nat):=by simp;omega
  have hz:Ak0 (k:Int)=n:=by rw[←hk];exact Bf8 n
  have Ac:(str (a++[1]++Aa4 k++(Aa4 s.size++(s.data.toList++r)))).extract ((a++[1]++Aa4 k).length+(Aa4 s.size).length) ((a++[1]++Aa4 k).length+(Aa4 s.size).length+s.size)=s:=by
   rw[Aa8,Ab7]
   have e:a++[1]++Aa4 k++(Aa4 s.size++(s.data.toList++r))=(a++[1]++Aa4 k++Aa4 s.size)++(s.data.toList++r):=by simp
   have hq:(a++[1]++Aa4 k).length+(Aa4 s.size).length=(a++[1]++Aa4 k++Aa4 s.size).length:=List.length_append.symm
   rw[e,hq,List.drop_left]
   generalize (a++[1]++Aa4 k++Aa4 s.size).length=q
   rw[Nat.add_sub_cancel_left,←Aa1,List.take_left]
   rfl
  have Ad:¬(((str (a++[1]++Aa4 k++(Aa4 s.size++(s.data.toList++r)))).size:Int)-(((a++[1]++Aa4 k).length:Int)+(Aa4 s.size).length)<(s.size:Nat)):=by
   rw[Aa3];simp only[Q5,Aa1];omega
  unfold Du7
  rw[hS,i1,e1]
  simp only[ne_eq,not_true_eq_false,if_false]
  rw[i2,Ab,e2]
  simp only[not_true_eq_false,if_false]
  have ht:(((a++[1]++Aa4 k).length:Int)+((Aa4 s.size).length:Int)).toNat=(a++[1]++Aa4 k).length+(Aa4 s.size).length:=by omega
  rw[if_neg Ad,hz,ht,Ac]
  congr 1
  simp only[Q5,Q6,Q8,Aa1];omega
 ·obtain⟨rfl,rfl⟩:=h0 rfl
  have hp:Ai9 true 0 ⟨#[]⟩=[0]:=rfl
  rw[hp]
  have hl:(str (a++([0]++r))).size=a.length+(1+r.length):=by rw[Aa3];simp;omega
  rw[if_neg (by rw[hl];omega),if_neg (by rw[hl];omega),Int.toNat_natCast,List.cons_append,hb,if_pos (by decide)]
  rfl
end Go.P

namespace Go.SC
open RowKit VB VL
structure Col where
 nm:ByteArray
 ty:Int
 sc:Int
 nu:Bool
def col0:Col:=⟨⟨#[]⟩,0,0,false⟩
def Col.cells(c:Col):List Value:=[.string c.nm,.int .i64 c.ty,.int .i64 c.sc,.bool c.nu]
def Col.val(c:Col):Value:=.agg #[.string c.nm,.int .i64 c.ty,.int .i64 c.sc,.bool c.nu]
def Ei4(n:Nat):Bool:=decide (97<=n/\n<=122)
def Fh8(n:Nat):Bool:=decide (48<=n/\n<=57)
def nmN(i n:Nat):Bool:=Ei4 n || (decide (i≠0)&&(Fh8 n || decide (n=95)))
def keyS:ByteArray:=⟨#[107,101,121]⟩
def Aj8(s:ByteArray):Bool:=decide (1<=s.size/\s.size<=16/\¬s=keyS)&&(List.range s.size).all fun i=>nmN i (bN s i)
theorem Dq4{s:ByteArray}(h:1<=s.size/\s.size<=16/\¬s=keyS)(h2:∀i,i<s.size->nmN i (bN s i)=true):Aj8 s=true:=by
 unfold Aj8
 rw[Q4 h,Bool.true_and,List.all_eq_true]
 intro i hi
 exact h2 i (List.mem_range.1 hi)
theorem As1{s:ByteArray}(h:¬(1<=s.size/\s.size<=16/\¬s=keyS)):Aj8 s=false:=by
 unfold Aj8
 rw[Q3 h,Bool.false_and]
theorem Cr9{s:ByteArray}{i:Nat}(hi:i<s.size)(h2:nmN i (bN s i)=false):Aj8 s=false:=by
 cases hn:Aj8 s with
 | false=>rfl
 | true=>
   unfold Aj8 at hn
   have:=List.all_eq_true.1 (Bool.and_eq_true_iff.1 hn).2 i (List.mem_range.2 hi)
   rw[h2] at this;cases this
theorem Cr8{s:ByteArray}(h:Aj8 s=true):(1<=s.size/\s.size<=16/\¬s=keyS)/\∀i,i<s.size->nmN i (bN s i)=true:=by
 unfold Aj8 at h
 obtain⟨h1,h2⟩:=Bool.and_eq_true_iff.1 h
 exact⟨of_decide_eq_true h1,fun i hi=>List.all_eq_true.1 h2 i (List.mem_range.2 hi)⟩
def fnd:List Col->ByteArray->Int
 | [],_ => -1
 | c::r,nm=>if c.nm=nm then 0 else if fnd r nm<0 then -1 else fnd r nm+1
theorem Dv6{nm:ByteArray}:∀{cs:List Col}{i:Nat},i<cs.length->(cs.getD i col0).nm=nm->(∀j,j<i->¬(cs.getD j col0).nm=nm)->fnd cs nm=i
 | [],i,h,_,_=>absurd h (Nat.not_lt_zero _)
 | c::r,0,_,h1,_=>by
   have Aa:c.nm=nm:=h1
   unfold fnd;rw[if_pos Aa];rfl
 | c::r,i+1,h,h1,h2=>by
   have h3:=Dv6 (cs:=r) (i:=i) (by simpa using h) h1 (fun j hj=>h2 (j+1) (by omega))
   have h4:¬c.nm=nm:=h2 0 (by omega)
   unfold fnd
   rw[if_neg h4,h3,if_neg (by omega)];omega
theorem Ct4{nm:ByteArray}:∀{cs:List Col},(∀j,j<cs.length->¬(cs.getD j col0).nm=nm)->fnd cs nm = -1
 | [],_=>rfl
 | c::r,h=>by
   have h3:=Ct4 (cs:=r) (fun j hj=>h (j+1) (by simpa using hj))
   have h4:¬c.nm=nm:=h 0 (by simp)
   unfold fnd
   rw[if_neg h4,h3];rfl
theorem Eu3{nm:ByteArray}{cs:List Col}{i:Nat}(hi:i<=cs.length):(0<=fnd cs nm/\fnd cs nm<i)↔∃j,j<i/\(cs.getD j col0).nm=nm:=by
 induction cs generalizing i with
 | nil=>
   constructor
   ·intro h;exact absurd h.1 (by show ¬(0:Int) <= -1;decide)
   ·rintro⟨j,hj,_⟩;simp at hi;omega
 | cons c r ih=>
   constructor
   ·intro h
    by_cases h0:c.nm=nm
    ·exact⟨0,by omega,h0⟩
    ·unfold fnd at h
     rw[if_neg h0] at h
     by_cases h1:fnd r nm<0
     ·rw[if_pos h1] at h;omega
     ·rw[if_neg h1] at h
      obtain⟨j,hj,he⟩:=(ih (i:=i-1) (by simp at hi;omega)).1 ⟨by omega,by omega⟩
      exact⟨j+1,by omega,he⟩
   ·rintro⟨j,hj,he⟩
    by_cases h0:c.nm=nm
    ·unfold fnd;rw[if_pos h0];omega
    ·match j,he with
     | 0,he=>exact absurd he h0
     | j+1,he=>
       have:=(ih (i:=i-1) (by simp at hi;omega)).2 ⟨j,by omega,he⟩
       unfold fnd
       rw[if_neg h0,if_neg (by omega)];omega
def Ab4(cs:List Col)(i:Nat):Nat:=
 let c:=cs.getD i col0
 if Aj8 c.nm=false then 3 else if(∃j,j<i/\(cs.getD j col0).nm=c.nm) then 5 else if okT c.ty=false then 11
 else if c.sc<0\/18<c.sc\/(c.ty≠5/\c.sc≠0) then 4 else 0
def Am4(cs:List Col):Nat->Nat->Nat
 | _,0=>0
 | i,n+1=>if Ab4 cs i=0 then Am4 cs (i+1) n else Ab4 cs i
def Ad9(cs:List Col)(key:Int):Nat:=
 if cs.length=0 then 1 else if 12<cs.length then 7 else if Am4 cs 0 cs.length≠0 then Am4 cs 0 cs.length
 else if key<0\/(cs.length:Int)<=key then 4 else 0
theorem Bk9{cs:List Col}:∀{n i j:Nat},j<n->(∀k,k<j->Ab4 cs (i+k)=0)->¬Ab4 cs (i+j)=0->Am4 cs i n=Ab4 cs (i+j)
 | 0,_,_,h,_,_=>absurd h (Nat.not_lt_zero _)
 | n+1,i,0,_,_,h2=>by
   have Aa:¬Ab4 cs i=0:=h2
   show(if Ab4 cs i=0 then Am4 cs (i+1) n else Ab4 cs i)=Ab4 cs i
   rw[if_neg Aa]
 | n+1,i,j+1,h,h1,h2=>by
   have h3:Ab4 cs i=0:=h1 0 (by omega)
   unfold Am4
   rw[if_pos h3,Bk9 (i:=i+1) (j:=j) (by omega) (fun k hk=>by have:=h1 (k+1) (by omega);rwa [←Nat.add_assoc,Nat.add_right_comm] at this) (by rwa [←Nat.add_assoc,Nat.add_right_comm] at h2),Nat.add_right_comm,Nat.add_assoc]
theorem Bc7{cs:List Col}:∀{n i:Nat},(∀k,k<n->Ab4 cs (i+k)=0)->Am4 cs i n=0
 | 0,_,_=>rfl
 | n+1,i,h=>by
   have h0:Ab4 cs i=0:=h 0 (by omega)
   unfold Am4
   rw[if_pos h0,Bc7 (fun k hk=>by have:=h (k+1) (by omega);rwa [←Nat.add_assoc,Nat.add_right_comm] at this)]
theorem Bc6{cs:List Col}:∀{n i:Nat},Am4 cs i n=0->∀k,k<n->Ab4 cs (i+k)=0
 | 0,_,_,_,hk=>absurd hk (Nat.not_lt_zero _)
 | n+1,i,h,k,hk=>by
   unfold Am4 at h
   by_cases h0:Ab4 cs i=0
   ·rw[if_pos h0] at h
    match k with
    | 0=>exact h0
    | k+1=>have:=Bc6 h k (by omega);rwa [←Nat.add_assoc,Nat.add_right_comm]
   ·rw[if_neg h0] at h;exact absurd h h0
theorem Cw1{cs:List Col}{key:Int}{j:Nat}(Aa:cs.length<=12)(hj:j<cs.length)(h1:∀k,k<j->Ab4 cs k=0)(h2:¬Ab4 cs j=0):Ad9 cs key=Ab4 cs j:=by
 have h:=Bk9 (i:=0) hj (fun k hk=>by rw[Nat.zero_add];exact h1 k hk) (by rwa [Nat.zero_add])
 rw[Nat.zero_add] at h
 unfold Ad9
 rw[if_neg (by omega),if_neg (by omega),h,if_pos h2]
theorem Bf3{cs:List Col}{key:Int}(h0:cs.length≠0)(Aa:cs.length<=12)(h1:∀k,k<cs.length->Ab4 cs k=0):Ad9 cs key=if key<0\/(cs.length:Int)<=key then 4 else 0:=by
 unfold Ad9
 rw[if_neg h0,if_neg (by omega),Bc7 (fun k hk=>by rw[Nat.zero_add];exact h1 k hk),if_neg (by simp)]
theorem Ad7{cs:List Col}{key:Int}(h:Ad9 cs key=0):cs.length≠0/\cs.length<=12/\(∀k,k<cs.length->Ab4 cs k=0)/\0<=key/\key<cs.length:=by
 unfold Ad9 at h
 split at h
 ·cases h
 ·split at h
  ·cases h
  ·split at h
   ·contradiction
   ·split at h
    ·cases h
    ·refine⟨by omega,by omega,fun k hk=>?_,by omega,by omega⟩
     have:=Bc6 (cs:=cs) (n:=cs.length) (i:=0) (by omega) k hk
     rwa [Nat.zero_add] at this
theorem Cd2{cs:List Col}{i:Nat}(h:Ab4 cs i=0):Aj8 (cs.getD i col0).nm=true/\(¬∃j,j<i/\(cs.getD j col0).nm=(cs.getD i col0).nm)/\okT (cs.getD i col0).ty=true /\
   0<=(cs.getD i col0).sc/\(cs.getD i col0).sc<=18/\((cs.getD i col0).ty≠5->(cs.getD i col0).sc=0):=by
 unfold Ab4 at h
 simp only at h
 split at h
 ·cases h
 ·split at h
  ·cases h
  ·split at h
   ·cases h
   ·split at h
    ·cases h
    ·refine⟨by simpa using ‹¬Aj8 _=false›,by assumption,by simpa using ‹¬okT _=false›,by omega,by omega,fun h5=>?_⟩
     omega
theorem Bl1{cs:List Col}{i:Nat}(h:Aj8 (cs.getD i col0).nm=false):Ab4 cs i=3:=by
 unfold Ab4;simp only;rw[if_pos h]
theorem Bp9{cs:List Col}{i:Nat}(h:Aj8 (cs.getD i col0).nm=true)(h2:∃j,j<i/\(cs.getD j col0).nm=(cs.getD i col0).nm):Ab4 cs i=5:=by
 unfold Ab4;simp only;rw[if_neg (by rw[h];simp),if_pos h2]
theorem Bl0{cs:List Col}{i:Nat}(h:Aj8 (cs.getD i col0).nm=true)(h2:¬∃j,j<i/\(cs.getD j col0).nm=(cs.getD i col0).nm)(h3:okT (cs.getD i col0).ty=false):Ab4 cs i=11:=by
 unfold Ab4;simp only;rw[if_neg (by rw[h];simp),if_neg h2,if_pos h3]
theorem Al8{cs:List Col}{i:Nat}(h:Aj8 (cs.getD i col0).nm=true)(h2:¬∃j,j<i/\(cs.getD j col0).nm=(cs.getD i col0).nm)(h3:okT (cs.getD i col0).ty=true):
   Ab4 cs i=if(cs.getD i col0).sc<0\/18<(cs.getD i col0).sc\/((cs.getD i col0).ty≠5/\(cs.getD i col0).sc≠0) then 4 else 0:=by
 unfold Ab4;simp only;rw[if_neg (by rw[h];simp),if_neg h2,if_neg (by rw[h3];simp)]
structure At4(w:World)(ad:Addr)(j:Nat)(c:Col):Prop where
 c0:w.cell? (ad.add (j*4))=some (.string c.nm)
 c1:w.cell? ⟨(ad.add (j*4)).block,(ad.add (j*4)).off+1,none⟩=some (.int .i64 c.ty)
 c2:w.cell? ⟨(ad.add (j*4)).block,(ad.add (j*4)).off+2,none⟩=some (.int .i64 c.sc)
 c3:w.cell? ⟨(ad.add (j*4)).block,(ad.add (j*4)).off+3,none⟩=some (.bool c.nu)
theorem Bq5(a:Addr)(n k:Nat)(hk:k≠0):a.add (n+k)=⟨(a.add n).block,(a.add n).off+k,none⟩:=by
 rw[←Go.Deep.add_add]
 show(a.add n).add k=_
 generalize a.add n=b
 unfold Addr.add
 rw[if_neg hk]
theorem At4.mk' {w:World} {ad:Addr} {j:Nat} {c:Col} (h0:w.cell? (ad.add (j*4))=some (.string c.nm)) (h1:w.cell? (ad.add (j*4+1))=some (.int .i64 c.ty)) (h2:w.cell? (ad.add (j*4+2))=some (.int .i64 c.sc))
   (h3:w.cell? (ad.add (j*4+3))=some (.bool c.nu)):At4 w ad j c:=
 ⟨h0,by rw[←Bq5 _ _ _ (by decide)];exact h1,by rw[←Bq5 _ _ _ (by decide)];exact h2,by rw[←Bq5 _ _ _ (by decide)];exact h3⟩
def RdC(w:World)(B:Nat)(v:Value)(cs:List Col):Prop:=
 ∃A c,v=.slice A cs.length c/\cs.length<=c/\c<=maxLen/\∀i,i<cs.length->∃ad,A=some ad/\ad.block<B/\At4 w ad i (cs.getD i col0)
theorem RdC.nil(w:World)(B:Nat):RdC w B (.slice none 0 0) []:=⟨none,0,rfl,Q1 _,Nat.zero_le _,fun _ hi=>absurd hi (Nat.not_lt_zero _)⟩
theorem At4.below{w w':World}{B:Nat}{ad:Addr}{j:Nat}{c:Col}(h:At4 w ad j c)(hb:Below B w w')(hB:ad.block<B):At4 w' ad j c:=by
 have Aa:(ad.add (j*4)).block<B:=by rw[block_add];exact hB
 exact⟨(hb.cell Aa).trans h.c0,(hb.cell (p:=⟨(ad.add (j*4)).block,_,none⟩) Aa).trans h.c1,(hb.cell (p:=⟨(ad.add (j*4)).block,_,none⟩) Aa).trans h.c2,(hb.cell (p:=⟨(ad.add (j*4)).block,_,none⟩) Aa).trans h.c3⟩
theorem RdC.below{w w':World}{B:Nat}{v:Value}{cs:List Col}(h:RdC w B v cs)(hb:Below B w w'):RdC w' B v cs:=by
 obtain⟨A,c,hv,hc,hm,hr⟩:=h
 refine⟨A,c,hv,hc,hm,fun i hi=>?_⟩
 obtain⟨ad,h1,h2,h3⟩:=hr i hi
 exact⟨ad,h1,h2,h3.below hb h2⟩
theorem RdC.more{w:World}{B B':Nat}{v:Value}{cs:List Col}(h:RdC w B v cs)(hB:B<=B'):RdC w B' v cs:=by
 obtain⟨A,c,hv,hc,hm,hr⟩:=h
 refine⟨A,c,hv,hc,hm,fun i hi=>?_⟩
 obtain⟨ad,h1,h2,h3⟩:=hr i hi
 exact⟨ad,h1,by omega,h3⟩
theorem RdC.step{w w':World}{v:Value}{cs:List Col}(h:RdC w w.heap.size v cs)(hb:Below w.heap.size w w'):RdC w' w'.heap.size v cs:=(h.below hb).more hb.size
def Ab2(cs:List Col):List Value:=cs.flatMap Col.cells
theorem Ar0:∀cs:List Col,(Ab2 cs).length=cs.length*4
 | []=>rfl
 | c::r=>by
   show(c.cells++Ab2 r).length=_
   rw[Q5,Ar0 r,Q6]
   show 4+_=_
   omega
theorem Cd0(a b:List Col):Ab2 (a++b)=Ab2 a++Ab2 b:=List.flatMap_append
theorem Ar1:∀(cs:List Col)(i k:Nat),i<cs.length->k<4->(Ab2 cs)[i*4+k]?=(cs.getD i col0).cells[k]?
 | [],i,_,h,_=>absurd h (Nat.not_lt_zero _)
 | c::r,0,k,_,hk=>by
   show(c.cells++Ab2 r)[0*4+k]?=_
   rw[Nat.zero_mul,Nat.zero_add,List.getElem?_append_left (show k<c.cells.length from hk)];rfl
 | c::r,i+1,k,h,hk=>by
   show(c.cells++Ab2 r)[(i+1)*4+k]?=_
   rw[List.getElem?_append_right (show c.cells.length<=(i+1)*4+k from by show 4<=_;omega),show(i+1)*4+k-c.cells.length=i*4+k from by show _-4=_;omega,
    Ar1 r i k (by simpa using h) hk];rfl
theorem Bc5(cs:List Col):∀u∈Ab2 cs,u.oneCell'=true:=by
 intro u hu
 obtain⟨c,_,hc⟩:=List.mem_flatMap.1 hu
 simp only[Col.cells,List.mem_cons,List.not_mem_nil,or_false] at hc
 rcases hc with rfl | rfl | rfl | rfl<;>rfl
def OwnC(e:TypeId)(w:World)(base:Nat)(v:Value)(cs:List Col):Prop:=w.ownsRow base e 4 v cs.length (Ab2 cs)
theorem OwnC.nil(e:TypeId)(w:World)(base:Nat):OwnC e w base (.slice none 0 0) []:=World.ownsRow_nil w base e 4
theorem OwnC.alloc{e:TypeId}{w:World}{base:Nat}{v:Value}{cs:List Col}(h:OwnC e w base v cs)(o:Obj):OwnC e (w.alloc o) base v cs:=World.ownsRow.alloc h o
theorem OwnC.lower{e:TypeId}{w:World}{base b':Nat}{v:Value}{cs:List Col}(h:OwnC e w base v cs)(hb:b'<=base):OwnC e w b' v cs:=Joins.ownsRow_le h hb
theorem OwnC.lt{e:TypeId}{w:World}{base:Nat}{v:Value}{cs:List Col}(h:OwnC e w base v cs):∀b,v.ownBlock=some b->base<=b/\b<w.heap.size:=World.ownsRow.lt h
theorem OwnC.below{e:TypeId}{w w':World}{base:Nat}{v:Value}{cs:List Col}(h:OwnC e w base v cs)(hb:Below w.heap.size w w'):OwnC e w' base v cs:=by
 refine World.ownsRow.kept (row:=none) h ⟨hb.os,hb.tape,hb.output,hb.size,fun b hlt _=>hb.block b hlt⟩ ?_
 rcases hv:v.ownBlock with _ | b
 ·exact .inl rfl
 ·exact .inr (by simp)
theorem OwnC.read{e:TypeId}{w:World}{base:Nat}{v:Value}{cs:List Col}(h:OwnC e w base v cs):RdC w w.heap.size v cs:=by
 have Aa:=h.lt
 rcases h.2 with⟨rfl,hn⟩ | ⟨g,c,Ab,rfl,_,_,h3,h4,_⟩
 ·have:=List.eq_nil_of_length_eq_zero hn
  subst this
  exact RdC.nil _ _
 ·refine⟨some ⟨g,0,none⟩,c,rfl,h3,h4,fun i hi=>⟨_,rfl,(Aa g rfl).2,?_⟩⟩
  have key:∀k u,k<4->(cs.getD i col0).cells[k]?=some u->w.cell? ((⟨g,0,none⟩:Addr).add (i*4+k))=some u:=fun k u hk hu=>
   World.ownsRow.cells h (g:=g) rfl (i*4+k) u (by rw[Ar1 cs i k hi hk];exact hu)
  exact At4.mk' (key 0 _ (by decide) rfl) (key 1 _ (by decide) rfl) (key 2 _ (by decide) rfl) (key 3 _ (by decide) rfl)
end Go.SC
namespace Go.SC
open RowKit VB VL
theorem Co5{s:ByteArray}(h:s.size=0):s=⟨#[]⟩:=by
 apply ByteArray.ext
 apply Array.toList_inj.1
 exact List.eq_nil_of_length_eq_zero (by rw[Aa1];omega)
theorem Ex8{s:ByteArray}(h:¬s.size=0):s.toList.isEmpty=false:=by
 rw[ByteArray.toList_eq]
 cases hl:s.data.toList with
 | nil=>rw[←Aa1,hl] at h;exact absurd rfl h
 | cons _ _=>rfl
theorem snoc{p:Nat->Prop}{j:Nat}(h:∀k,k<j->p k)(hj:p j):∀k,k<j+1->p k:=fun k hk=>by
 rcases Nat.lt_or_eq_of_le (Nat.le_of_lt_succ hk) with h1 | h1
 ·exact h k h1
 ·rw[h1];exact hj
theorem Ak7{p:Nat->Prop}:∀k,k<0->p k:=fun k hk=>absurd hk (Nat.not_lt_zero k)
theorem Ei9:keyS.toList=[107,101,121]:=by rw[ByteArray.toList_eq];rfl
theorem Et5{s:ByteArray}(h:¬s=keyS):(s.toList==[107,101,121])=false:=by rw[←Ei9];exact Au2 h
theorem Et1{i V:Nat}(h:Ei4 V=true):nmN i V=true:=by unfold nmN;rw[h];rfl
theorem Ch3{V:Nat}(h:Ei4 V=false):nmN 0 V=false:=by unfold nmN;rw[h];rfl
theorem Ch4{i V:Nat}(h:Ei4 V=false)(hi:i≠0):nmN i V=(Fh8 V || decide (V=95)):=by unfold nmN;rw[h,Q4 hi];rfl
end Go.SC
namespace Go.P
open RowKit VB VL SC
theorem Ca8(n:Nat)(w:World):Calls Tryz.prog 168 #[.int .u8 (n:Int)] w (Ret (.bool (Ei4 n)) w):=by
 unfold Ei4
 by_cases h1:97<=n
 ·by_cases h2:n<=122
  ·rw[Q4 ⟨h1,h2⟩]
   go_enter Tryz.func168,Tryz.ntmps168
   go_wp2
   go_ret
   exact Ret.mk (by simp;omega)
  ·rw[Q3 (fun h=>h2 h.2)]
   go_enter Tryz.func168,Tryz.ntmps168
   go_wp2
   go_ret
   exact Ret.mk (by simp;omega)
 ·rw[Q3 (fun h=>h1 h.1)]
  go_enter Tryz.func168,Tryz.ntmps168
  go_wp2
  go_ret
  exact Ret.mk rfl
theorem Ci3(n:Nat)(w:World):Calls Tryz.prog 169 #[.int .u8 (n:Int)] w (Ret (.bool (Fh8 n)) w):=by
 unfold Fh8
 by_cases h1:48<=n
 ·by_cases h2:n<=57
  ·rw[Q4 ⟨h1,h2⟩]
   go_enter Tryz.func169,Tryz.ntmps169
   go_wp2
   go_ret
   exact Ret.mk (by simp;omega)
  ·rw[Q3 (fun h=>h2 h.2)]
   go_enter Tryz.func169,Tryz.ntmps169
   go_wp2
   go_ret
   exact Ret.mk (by simp;omega)
 ·rw[Q3 (fun h=>h1 h.1)]
  go_enter Tryz.func169,Tryz.ntmps169
  go_wp2
  go_ret
  exact Ret.mk rfl
theorem Ei1(s:ByteArray)(w:World):Calls Tryz.prog 135 #[.string s] w (Ret (.bool (Aj8 s)) w):=by
 by_cases h0:s.size=0
 ·have hv:=As1 (s:=s) (fun h=>by omega)
  obtain rfl:=Co5 h0
  rw[hv];clear hv h0
  go_enter Tryz.func135,Tryz.ntmps135
  go_wp2
  go_ret
  exact Ret.mk rfl
 have Ae:=Ex8 h0
 by_cases h16:16<s.size
 ·have hv:=As1 (s:=s) (fun h=>by omega)
  rw[hv];clear hv
  go_enter Tryz.func135,Tryz.ntmps135
  go_wp2
  go_ret
  exact Ret.mk rfl
 by_cases hk:s=keyS
 ·have hv:=As1 (s:=s) (fun h=>h.2.2 hk)
  subst hk
  rw[hv];clear hv h0 h16 Ae
  unfold keyS
  go_enter Tryz.func135,Tryz.ntmps135
  go_wp2
  go_ret
  exact Ret.mk rfl
 have Af:=Et5 hk
 have HT:=Hd (Dq4 (s:=s) ⟨by omega,by omega,hk⟩)
 have HF:=fun i=>Hd (Cr9 (s:=s) (i:=i))
 have hb:=Ai1 s
 clear hk
 have HL:=fun n w=>Hd (Ca8 n w)
 have HD:=fun n w=>Hd (Ci3 n w)
 go_enter Tryz.func135,Tryz.ntmps135
 go_wp2_with fail
 go_loop [2,3,17] (fun r i j=>∃k:Nat,r=.bool false/\j=.int .i64 k/\k<=s.size/\∀m,m<k->nmN m (bN s m)=true) (fun _ _ j=>s.size-(intOf j).toNat)
 case atStart=>exact⟨0,rfl,rfl,Nat.zero_le _,Ak7⟩
 case round=>
  obtain⟨k,rfl,rfl,hk,hf⟩:=hrel
  have HP:=Hd hf;clear hf
  by_cases hlt:k<s.size
  ·have Ah:=hb k
   have Aa:=fun h=>Hd ((HF k).out hlt h)
   have HN:=fun h=>Hd (snoc (p:=fun m=>nmN m (bN s m)=true) (j:=k) HP.out h)
   have Ai:=Ah2 s k
   clear HF HT HP Ae Af hb
   generalize bN s k=V at *
   cases hl:Ei4 V with
   | true=>
     have HE:=HN (Et1 hl)
     have Ab:=fun w=>Hd (show Calls Tryz.prog 168 #[.int .u8 (V:Int)] w (Ret (.bool true) w) from by have:=(HL V w).out;rwa [hl] at this)
     clear hl HN Aa HL
     go_wp2_with(first | (go_at_call 168;(with_reducible refine(Ab _).out.mono ?_);rintro e w' ⟨rfl,rfl⟩))
     go_round
     case rel=>exact⟨k+1,rfl,by go_num,hlt,HE.out⟩
     case measure=>simp[intOf]<;>omega
   | false=>
     have Ab:=fun w=>Hd (show Calls Tryz.prog 168 #[.int .u8 (V:Int)] w (Ret (.bool false) w) from by have:=(HL V w).out;rwa [hl] at this)
     by_cases hk0:k=0
     ·subst hk0
      have HE:=Aa (Ch3 hl)
      clear hl HN Aa HL
      go_wp2_with(first | (go_at_call 168;(with_reducible refine(Ab _).out.mono ?_);rintro e w' ⟨rfl,rfl⟩))
      go_ret
      exact Ret.mk (congrArg Value.bool HE.out.symm)
     ·have Ag:((k:Int)==0)=false:=Ab3 (by omega)
      have hm:=Ch4 hl hk0
      have Ac:=fun w=>Hd (HD V w).out
      cases hd:Fh8 V with
      | true=>
        rw[hd] at hm Ac
        have HE:=HN hm
        clear hl HN Aa HL hm hd
        go_wp2_with(first | (go_at_call 168;(with_reducible refine(Ab _).out.mono ?_);rintro e w' ⟨rfl,rfl⟩) | (go_at_call 169;(with_reducible refine(Ac _).out.mono ?_);rintro e w' ⟨rfl,rfl⟩))
        go_round
        case rel=>exact⟨k+1,rfl,by go_num,hlt,HE.out⟩
        case measure=>simp[intOf]<;>omega
      | false=>
        rw[hd,Bool.false_or] at hm
        rw[hd] at Ac
        by_cases h95:V=95
        ·have HE:=HN (hm.trans (Q4 h95))
         have Ad:((V:Int)!=95)=false:=Ca9 (by omega)
         clear hl HN Aa HL hm hd h95
         go_wp2_with(first | (go_at_call 168;(with_reducible refine(Ab _).out.mono ?_);rintro e w' ⟨rfl,rfl⟩) | (go_at_call 169;(with_reducible refine(Ac _).out.mono ?_);rintro e w' ⟨rfl,rfl⟩))
         go_round
         case rel=>exact⟨k+1,rfl,by go_num,hlt,HE.out⟩
         case measure=>simp[intOf]<;>omega
        ·have HE:=Aa (hm.trans (Q3 h95))
         have Ad:((V:Int)!=95)=true:=Ab5 (by omega)
         clear hl HN Aa HL hm hd h95
         go_wp2_with(first | (go_at_call 168;(with_reducible refine(Ab _).out.mono ?_);rintro e w' ⟨rfl,rfl⟩) | (go_at_call 169;(with_reducible refine(Ac _).out.mono ?_);rintro e w' ⟨rfl,rfl⟩))
         go_ret
         exact Ret.mk (congrArg Value.bool HE.out.symm)
  ·have HE:=Hd (HT.out (fun i hi=>HP.out i (by omega)))
   clear HT HF HL HD HP
   go_wp2
   go_ret
   exact Ret.mk (congrArg Value.bool HE.out.symm)
theorem Dm6(s:ByteArray)(w:World):Calls Tryz.prog 72 #[.string s] w (Ret (.bool (Aj8 s)) w):=by
 by_cases h0:s.size=0
 ·have hv:=As1 (s:=s) (fun h=>by omega)
  obtain rfl:=Co5 h0
  rw[hv];clear hv h0
  go_enter Tryz.func72,Tryz.ntmps72
  go_wp2
  go_ret
  exact Ret.mk rfl
 by_cases h16:16<s.size
 ·have hv:=As1 (s:=s) (fun h=>by omega)
  rw[hv];clear hv
  go_enter Tryz.func72,Tryz.ntmps72
  go_wp2
  go_ret
  exact Ret.mk rfl
 by_cases hk:s=keyS
 ·have hv:=As1 (s:=s) (fun h=>h.2.2 hk)
  subst hk
  rw[hv];clear hv h0 h16
  unfold keyS
  go_enter Tryz.func72,Tryz.ntmps72
  go_wp2
  go_ret
  exact Ret.mk rfl
 have Ad:=Et5 hk
 have HT:=Hd (Dq4 (s:=s) ⟨by omega,by omega,hk⟩)
 have HF:=fun i=>Hd (Cr9 (s:=s) (i:=i))
 have hb:=Ai1 s
 clear hk
 go_enter Tryz.func72,Tryz.ntmps72
 go_wp2_with fail
 go_loop [2,3,4] (fun r j _=>∃k:Nat,r=.bool false/\j=.int .i64 k/\k<=s.size/\∀m,m<k->nmN m (bN s m)=true) (fun _ j _=>s.size-(intOf j).toNat)
 case atStart=>exact⟨0,rfl,rfl,Nat.zero_le _,Ak7⟩
 case round=>
  obtain⟨k,rfl,rfl,hk,hf⟩:=hrel
  have HP:=Hd hf;clear hf
  by_cases hlt:k<s.size
  ·have Af:=hb k
   have Aa:=fun h=>Hd ((HF k).out hlt h)
   have HN:=fun h=>Hd (snoc (p:=fun m=>nmN m (bN s m)=true) (j:=k) HP.out h)
   have Ah:=Ah2 s k
   clear HF HT HP Ad hb
   generalize bN s k=V at *
   by_cases ha:97<=V
   ·by_cases hz:V<=122
    ·have HE:=HN (Et1 (Q4 ⟨ha,hz⟩))
     clear HN Aa
     go_wp2
     go_round
     case rel=>exact⟨k+1,rfl,by go_num,hlt,HE.out⟩
     case measure=>simp[intOf]<;>omega
    ·have hl:Ei4 V=false:=Q3 (fun h=>hz h.2)
     have Ae:((V:Int)!=95)=true:=Ab5 (by omega)
     have Ag:decide ((V:Int)<=122)=false:=Q3 (by omega)
     have Ai:decide (57<(V:Int))=true:=Q4 (by omega)
     have HE:=Aa (by
      by_cases h0:k=0
      ·rw[h0];exact Ch3 hl
      ·rw[Ch4 hl h0,show Fh8 V=false from Q3 (by omega),Q3 (by omega)];rfl)
     clear HN Aa hl
     by_cases hk0:k=0
     ·subst hk0
      go_wp2
      go_ret
      exact Ret.mk (congrArg Value.bool HE.out.symm)
     ·have Ab:((k:Int)==0)=false:=Ab3 (by omega)
      go_wp2
      go_ret
      exact Ret.mk (congrArg Value.bool HE.out.symm)
   ·have hl:Ei4 V=false:=Q3 (fun h=>ha h.1)
    by_cases hk0:k=0
    ·subst hk0
     have HE:=Aa (Ch3 hl)
     clear HN Aa hl
     go_wp2
     go_ret
     exact Ret.mk (congrArg Value.bool HE.out.symm)
    ·have Ab:((k:Int)==0)=false:=Ab3 (by omega)
     have hm:=Ch4 hl hk0
     by_cases h95:V=95
     ·have HE:=HN (hm.trans (by rw[Q4 h95,Bool.or_true]))
      have Ac:((V:Int)!=95)=false:=Ca9 (by omega)
      clear HN Aa hl hm h95
      go_wp2
      go_round
      case rel=>exact⟨k+1,rfl,by go_num,hlt,HE.out⟩
      case measure=>simp[intOf]<;>omega
     ·have Ac:((V:Int)!=95)=true:=Ab5 (by omega)
      rw[Q3 h95,Bool.or_false] at hm
      by_cases h48:V<48
      ·have HE:=Aa (hm.trans (Q3 (by omega)))
       clear HN Aa hl hm h95
       go_wp2
       go_ret
       exact Ret.mk (congrArg Value.bool HE.out.symm)
      ·by_cases h57:57<V
       ·have HE:=Aa (hm.trans (Q3 (by omega)))
        clear HN Aa hl hm h95
        go_wp2
        go_ret
        exact Ret.mk (congrArg Value.bool HE.out.symm)
       ·have HE:=HN (hm.trans (Q4 (by omega)))
        clear HN Aa hl hm h95
        go_wp2
        go_round
        case rel=>exact⟨k+1,rfl,by go_num,hlt,HE.out⟩
        case measure=>simp[intOf]<;>omega
  ·have HE:=Hd (HT.out (fun i hi=>HP.out i (by omega)))
   clear HT HF HP
   go_wp2
   go_ret
   exact Ret.mk (congrArg Value.bool HE.out.symm)
end Go.P
namespace Go.P
open RowKit VB VL SC
theorem El2(cs:List Col)(v:Value)(key:Int)(nm:ByteArray)(W:World)(hr:RdC W W.heap.size v cs):
   Calls Tryz.prog 136 #[.agg #[v,.int .i64 key],.string nm] W (RetB (.int .i64 (fnd cs nm)) W):=by
 have HH:=fun i=>Hd (Dv6 (cs:=cs) (nm:=nm) (i:=i))
 have HM:=Hd (Ct4 (cs:=cs) (nm:=nm))
 obtain⟨A,c,rfl,hc,hm,Ab⟩:=hr
 have hX:∀j,j<cs.length->∃ad,A=some ad/\ad.block<W.heap.size/\At4 W ad j (cs.getD j col0):=Ab
 clear Ab
 unfold maxLen at hm
 have HX:=Hd hX;clear hX
 go_enter Tryz.func136,Tryz.ntmps136
 go_wp2_with fail
 go_loopw[4,5,6,10] (fun r _ _ j wr=>∃k:Nat,r=.int .i64 0/\j=.int .i64 k/\k<=cs.length/\Below W.heap.size W wr/\∀m,m<k->¬(cs.getD m col0).nm=nm) (fun _ _ _ j _=>cs.length-(intOf j).toNat)
 case atStart=>exact⟨0,rfl,rfl,Nat.zero_le _,by go_grown,Ak7⟩
 case round=>
  obtain⟨k,rfl,rfl,hk,hB,hf⟩:=hrel
  have HP:=Hd hf;clear hf
  by_cases hlt:k<cs.length
  ·obtain⟨ad,rfl,Ac,Ad⟩:=HX.out k hlt
   obtain⟨q0,q1,q2,q3⟩:=Ad.below hB Ac
   have Aa:=fun h=>Hd ((HH k).out hlt h HP.out)
   have HN:=fun h=>Hd (snoc (p:=fun m=>¬(cs.getD m col0).nm=nm) (j:=k) HP.out h)
   clear HX HH HM HP Ad Ac
   generalize cs.getD k col0=C at *
   obtain⟨cn,ct,Ae,Af⟩:=C
   replace Aa:cn=nm->Hid (fnd cs nm=k):=Aa
   replace HN:¬cn=nm->Hid (∀m,m<k+1->¬(cs.getD m col0).nm=nm):=HN
   by_cases he:cn=nm
   ·have HE:=Aa he
    have ht:=Az8 he
    clear HN Aa he
    go_wp2_with fail
    go_ret
    exact RetB.mk (congrArg (Value.int .i64) HE.out.symm) (hB.alloc hB.size _)
   ·have HE:=HN he
    have ht:=Au2 he
    clear HN Aa he
    go_wp2_with fail
    go_roundw
    case rel=>exact⟨k+1,rfl,by go_num,hlt,hB.alloc hB.size _,HE.out⟩
    case measure=>simp[intOf]<;>omega
  ·clear HX HH
   have HE:=Hd (HM.out (fun j hj=>HP.out j (by omega)))
   clear HM HP
   go_wp2
   go_ret
   exact RetB.mk (congrArg (Value.int .i64) HE.out.symm) hB
end Go.P
namespace Go.SC
open RowKit VB VL
def Br9(ty:Int):ByteArray:=
 if ty=1 then⟨#[105,110,116]⟩ else if ty=2 then⟨#[98,111,111,108]⟩ else if ty=3 then⟨#[98,121,116,101,115]⟩ else if ty=4 then⟨#[100,97,116,101]⟩
 else if ty=5 then⟨#[100,101,99,105,109,97,108]⟩ else⟨#[]⟩
theorem Bx7{ty:Int}(h:okT ty=false):Br9 ty=⟨#[]⟩:=by
 have:=of_decide_eq_false h
 unfold Br9
 rw[if_neg (by omega),if_neg (by omega),if_neg (by omega),if_neg (by omega),if_neg (by omega)]
theorem Aq5{ty:Int}(h:okT ty=true):ty=1\/ty=2\/ty=3\/ty=4\/ty=5:=by
 have:=of_decide_eq_true h;omega
theorem Ee3{ty:Int}(h:okT ty=true):(Br9 ty).toList.isEmpty=false:=by
 rcases Aq5 h with rfl | rfl | rfl | rfl | rfl<;>(rw[ByteArray.toList_eq];rfl)
def gsc(ty:Int):Int:=if ty=5 then 18 else 0
theorem Fd8{cs:List Col}{i:Nat}(hi:i<cs.length):fnd cs (cs.getD i col0).nm<i↔∃j,j<i/\(cs.getD j col0).nm=(cs.getD i col0).nm:=by
 have h1:=Eu3 (nm:=(cs.getD i col0).nm) (cs:=cs) (i:=i) (by omega)
 have h2:=Eu3 (nm:=(cs.getD i col0).nm) (cs:=cs) (i:=i+1) (by omega)
 have h3:=h2.2 ⟨i,by omega,rfl⟩
 constructor
 ·intro h;exact h1.1 ⟨h3.1,h⟩
 ·intro h;exact(h1.2 h).2
structure Var2(w:World)(b:Nat)(x y:Value):Prop where
 c0:w.cell? ⟨b,0,none⟩=some x
 c1:w.cell? ⟨b,1,none⟩=some y
 f0:w.frozen? ⟨b,0,none⟩=false
 f1:w.frozen? ⟨b,1,none⟩=false
theorem Var2.new(w:World)(x y:Value)(T:TypeId):Var2 (w.alloc (.cells #[x,y] T)) w.heap.size x y:=by
 constructor<;>simp
theorem Var2.lt{w:World}{b:Nat}{x y:Value}(h:Var2 w b x y):b<w.heap.size:=World.block_lt_of_cell? w _ h.c0
theorem Var2.below{w w':World}{b B:Nat}{x y:Value}(h:Var2 w b x y)(hb:Below B w w')(hB:b<B):Var2 w' b x y:=by
 constructor
 ·rw[hb.cell hB];exact h.c0
 ·rw[hb.cell hB];exact h.c1
 ·rw[hb.frozen hB];exact h.f0
 ·rw[hb.frozen hB];exact h.f1
theorem Bh4{P:Program}{f:FuncId}{args:Array Value}{w:World}{n:Nat}{v:Value}(h:Calls P f args (w.drewN n) (Ret v (w.drewN n))):
 Calls P f args (w.drewN n) fun e w''=>e=.returned v/\∃m,w''=w.drewN m:=h.mono fun _ _⟨he,hm⟩=>⟨he,n,hm.symm⟩
theorem Var2.step{w w':World}{b:Nat}{x y:Value}(h:Var2 w b x y)(hb:Below w.heap.size w w'):Var2 w' b x y:=h.below hb h.lt
end Go.SC
namespace Go.P
open RowKit VB VL SC
theorem Bm6(ty:Int)(w:World):Calls Tryz.prog 137 #[.int .i64 ty] w (Ret (.string (Br9 ty)) w):=by
 cases h:okT ty with
 | true=>
   rcases Aq5 h with rfl | rfl | rfl | rfl | rfl
   all_goals
    go_enter Tryz.func137,Tryz.ntmps137
    go_wp2
    go_ret
    exact Ret.mk rfl
 | false=>
   rw[Bx7 h]
   have h':=of_decide_eq_false h
   have e1:(ty==1)=false:=Ab3 (by omega)
   have e2:(ty==2)=false:=Ab3 (by omega)
   have e3:(ty==3)=false:=Ab3 (by omega)
   have e4:(ty==4)=false:=Ab3 (by omega)
   have e5:(ty==5)=false:=Ab3 (by omega)
   clear h h'
   go_enter Tryz.func137,Tryz.ntmps137
   go_wp2
   go_ret
   exact Ret.mk rfl
theorem Cb2(ty:Int)(w:World):Calls Tryz.prog 138 #[.int .i64 ty] w (Ret (.int .i64 (gsc ty)) w):=by
 unfold gsc
 by_cases h:ty=5
 ·subst h
  go_enter Tryz.func138,Tryz.ntmps138
  go_wp2
  go_ret
  exact Ret.mk rfl
 ·rw[if_neg h]
  have e5:=Ab3 h
  go_enter Tryz.func138,Tryz.ntmps138
  go_wp2
  go_ret
  exact Ret.mk rfl
theorem Cd5(cs:List Col)(v:Value)(key:Int)(i:Nat)(W:World)(hr:RdC W W.heap.size v cs)(hi:i<cs.length):
   Calls Tryz.prog 99 #[.agg #[v,.int .i64 key],.int .i64 (i:Int)] W (RetB (.int .i64 (Ab4 cs i:Nat)) W):=by
 have HF:=fun nm(w:World)(hb:Below W.heap.size W w)=>Hd (El2 cs v key nm w (hr.step hb))
 have HN:=fun s w=>Hd (Ei1 s w)
 have HW:=fun t w=>Hd (Bm6 t w)
 have HG:=fun t w=>Hd (Cb2 t w)
 have Aa:=Fd8 hi
 have C1:=fun h=>Hd (Bl1 (cs:=cs) (i:=i) h)
 have C2:=fun h h2=>Hd (Bp9 (cs:=cs) (i:=i) h h2)
 have C3:=fun h h2 h3=>Hd (Bl0 (cs:=cs) (i:=i) h h2 h3)
 have C4:=fun h h2 h3=>Hd (Al8 (cs:=cs) (i:=i) h h2 h3)
 obtain⟨A,c,rfl,hc,hm,Ah⟩:=hr
 obtain⟨ad,rfl,Ai,An⟩:=Ah i hi
 clear Ah
 unfold maxLen at hm
 generalize cs.getD i col0=C at *
 obtain⟨cn,ct,Ab,Af⟩:=C
 have Ad:Below W.heap.size W (W.alloc (.cells #[.slice (some ad) cs.length c,.int .i64 key] 24)):=(Q2 _ _).alloc (Q1 _) _
 obtain⟨q0,q1,q2,q3⟩:=An.below Ad Ai
 have Ag:=Var2.new W (.slice (some ad) cs.length c) (.int .i64 key) 24
 have Al:=Var4.new (W.alloc (.cells #[.slice (some ad) cs.length c,.int .i64 key] 24)) (.string cn) (.int .i64 ct) (.int .i64 Ab) (.bool Af) 62
 replace Ag:=Ag.step ((Q2 _ _).alloc (Q1 _) (.cells #[.string cn,.int .i64 ct,.int .i64 Ab,.bool Af] 62))
 rw[show(W.alloc (.cells #[.slice (some ad) cs.length c,.int .i64 key] 24)).heap.size=W.heap.size+1 from by simp] at Al
 have hB:Below W.heap.size W ((W.alloc (.cells #[.slice (some ad) cs.length c,.int .i64 key] 24)).alloc (.cells #[.string cn,.int .i64 ct,.int .i64 Ab,.bool Af] 62)):=Ad.alloc Ad.size _
 have Aj:=fun w=>Hd (HN cn w).out
 clear Ad An Ai HN
 obtain⟨k0,k1,k2,k3⟩:=Al
 obtain⟨l0,l1,_,_⟩:=Ag
 go_enter Tryz.func99,Tryz.ntmps99
 go_wp2_with fail
 clear q0 q1 q2 q3
 generalize hX:(W.alloc (.cells #[.slice (some ad) cs.length c,.int .i64 key] 24)).alloc (.cells #[.string cn,.int .i64 ct,.int .i64 Ab,.bool Af] 62)=X at *
 refine(Aj _).out.mono ?_
 rintro e w1 ⟨rfl,rfl⟩
 clear hX Aj
 cases hn:Aj8 cn with
 | false=>
   have HE:=C1 hn
   clear C1 C2 C3 C4 hn HF HW HG Aa
   go_wp2_with fail
   go_ret
   exact RetB.mk (by rw[HE.out];rfl) hB
 | true=>
 replace C2:=C2 hn
 replace C3:=C3 hn
 replace C4:=C4 hn
 clear C1 hn
 have Ak:=Hd (HF cn X hB).out
 have hV:=fun(w:World)(hb:Below X.heap.size X w)=>Hd (And.intro (Aa0 hB hb) (And.intro (Var4.step (w':=w) ⟨k0,k1,k2,k3⟩ hb) (Nat.zero_le 0)))
 clear HF
 go_wp2_with fail
 refine Ak.out.mono ?_
 rintro e w2 ⟨rfl,hb⟩
 clear k0 k1 k2 k3 l0 l1 Ak hB
 obtain⟨hB,⟨k0,k1,k2,k3⟩,_⟩:=(hV w2 hb).out
 clear hV hb
 by_cases hd:fnd cs cn<(i:Int)
 ·have HE:=C2 (Aa.1 hd)
  have Ao:decide (fnd cs cn<(i:Int))=true:=Q4 hd
  clear C2 C3 C4 HW HG Aa hd
  generalize fnd cs cn=F at *
  go_wp2_with fail
  go_ret
  exact RetB.mk (by rw[HE.out];rfl) hB
 have Ao:decide (fnd cs cn<(i:Int))=false:=Q3 hd
 replace C3:=C3 (fun h=>hd (Aa.2 h))
 replace C4:=C4 (fun h=>hd (Aa.2 h))
 clear C2 Aa hd
 generalize fnd cs cn=F at *
 have Ac:=fun w=>Hd (HW ct w).out
 have Ae:=fun w=>Hd (HG ct w).out
 clear HW HG
 cases ht:okT ct with
 | false=>
   have HE:=C3 ht
   rw[Bx7 ht] at Ac
   clear C3 C4 ht Ae
   go_wp2_with(go_at_call 137;refine(Ac _).out.mono ?_;rintro e w' ⟨rfl,rfl⟩)
   go_ret
   exact RetB.mk (by rw[HE.out];rfl) hB
 | true=>
 have HE:=C4 ht
 have Ar:=Ee3 ht
 clear C3 C4
 generalize Br9 ct=TW at *
 by_cases hs:Ab<0
 ·have Ap:decide (Ab<0)=true:=Q4 hs
  rw[if_pos (.inl hs)] at HE
  clear ht hs Ae
  go_wp2_with(go_at_call 137;refine(Ac _).out.mono ?_;rintro e w' ⟨rfl,rfl⟩)
  go_quiet(fail)
  go_wp2_with fail
  go_ret
  exact RetB.mk (by rw[HE.out];rfl) (below_drewN hB _)
 have Ap:decide (Ab<0)=false:=Q3 hs
 by_cases hg:gsc ct<Ab
 ·have Aq:decide (gsc ct<Ab)=true:=Q4 hg
  rw[if_pos (by unfold gsc at hg;split at hg<;>omega)] at HE
  clear ht hs hg
  generalize gsc ct=G at *
  go_wp2_with(go_at_call 137;refine(Ac _).out.mono ?_;rintro e w' ⟨rfl,rfl⟩)
  go_quiet(first | (go_at_call 138;refine Bh4 (Ae _).out))
  go_wp2_with fail
  go_ret
  exact RetB.mk (by rw[HE.out];rfl) (below_drewN hB _)
 ·have Aq:decide (gsc ct<Ab)=false:=Q3 hg
  rw[if_neg (by unfold gsc at hg;split at hg<;>omega)] at HE
  clear ht hs hg
  generalize gsc ct=G at *
  go_wp2_with(go_at_call 137;refine(Ac _).out.mono ?_;rintro e w' ⟨rfl,rfl⟩)
  go_quiet(first | (go_at_call 138;refine Bh4 (Ae _).out))
  go_wp2_with fail
  go_ret
  exact RetB.mk (by rw[HE.out];rfl) (below_drewN hB _)
end Go.P
namespace Go.SC
open RowKit VB VL
structure Var4F(w:World)(b:Nat)(x y z u:Value):Prop where
 c0:w.cell? ⟨b,0,none⟩=some x
 c1:w.cell? ⟨b,1,none⟩=some y
 c2:w.cell? ⟨b,2,none⟩=some z
 c3:w.cell? ⟨b,3,none⟩=some u
 f0:w.frozen? ⟨b,0,none⟩=false
 f1:w.frozen? ⟨b,1,none⟩=false
 f2:w.frozen? ⟨b,2,none⟩=false
 f3:w.frozen? ⟨b,3,none⟩=false
theorem Var4F.new(w:World)(x y z u:Value)(T:TypeId):Var4F (w.alloc (.cells #[x,y,z,u] T)) w.heap.size x y z u:=by
 constructor<;>simp
theorem Var4F.lt{w:World}{b:Nat}{x y z u:Value}(h:Var4F w b x y z u):b<w.heap.size:=World.block_lt_of_cell? w _ h.c0
theorem Var4F.below{w w':World}{b B:Nat}{x y z u:Value}(h:Var4F w b x y z u)(hb:Below B w w')(hB:b<B):Var4F w' b x y z u:=by
 constructor
 ·rw[hb.cell hB];exact h.c0
 ·rw[hb.cell hB];exact h.c1
 ·rw[hb.cell hB];exact h.c2
 ·rw[hb.cell hB];exact h.c3
 ·rw[hb.frozen hB];exact h.f0
 ·rw[hb.frozen hB];exact h.f1
 ·rw[hb.frozen hB];exact h.f2
 ·rw[hb.frozen hB];exact h.f3
theorem Var4F.step{w w':World}{b:Nat}{x y z u:Value}(h:Var4F w b x y z u)(hb:Below w.heap.size w w'):Var4F w' b x y z u:=h.below hb h.lt
theorem Var4F.set{w:World}{b:Nat}{x y z u:Value}(h:Var4F w b x y z u)(x' y' z' u':Value):
   Var4F ((((w.setCell ⟨b,0,none⟩ x').setCell ⟨b,1,none⟩ y').setCell ⟨b,2,none⟩ z').setCell ⟨b,3,none⟩ u') b x' y' z' u':=by
 have s1:=World.cell?_setCell_same w ⟨b,0,none⟩ x' h.c0
 have k:∀(w:World)(i j:Nat)(v:Value),i≠j->(w.setCell ⟨b,i,none⟩ v).cell? ⟨b,j,none⟩=w.cell? ⟨b,j,none⟩:=fun w i j v hij=>World.cell?_setCell_other _ _ _ _ (fun e=>hij (congrArg Addr.off e))
 constructor
 ·rw[k _ 3 0 _ (by decide),k _ 2 0 _ (by decide),k _ 1 0 _ (by decide)];exact World.cell?_setCell_same _ _ _ h.c0
 ·rw[k _ 3 1 _ (by decide),k _ 2 1 _ (by decide)];exact World.cell?_setCell_same _ _ _ ((k _ 0 1 _ (by decide)).trans h.c1)
 ·rw[k _ 3 2 _ (by decide)];exact World.cell?_setCell_same _ _ _ ((k _ 1 2 _ (by decide)).trans ((k _ 0 2 _ (by decide)).trans h.c2))
 ·exact World.cell?_setCell_same _ _ _ ((k _ 2 3 _ (by decide)).trans ((k _ 1 3 _ (by decide)).trans ((k _ 0 3 _ (by decide)).trans h.c3)))
 all_goals
  simp only[World.frozen?_setCell]
  first | exact h.f0 | exact h.f1 | exact h.f2 | exact h.f3
end Go.SC

namespace Go.RS
open RowKit VB VS VL Go.ST
def Bm0(ty:Int)(a:Vl)(s:Int)(b:Vl)(t:Int):Int:=if cmp ty a.nu a.n a.s b.nu b.n b.s≠0 then cmp ty a.nu a.n a.s b.nu b.n b.s else cmpI s t
theorem Bf1(ty:Int)(a:Vl)(s:Int)(b:Vl)(t:Int):Bm0 ty b t a s = -Bm0 ty a s b t:=by
 have h1:=Bk7 ty a.nu a.n a.s b.nu b.n b.s
 have h2:=Cw0 s t
 unfold Bm0
 generalize cmp ty a.nu a.n a.s b.nu b.n b.s=p at *
 generalize cmp ty b.nu b.n b.s a.nu a.n a.s=q at *
 by_cases h:p=0
 ·rw[if_neg (by omega),if_neg (by omega)];exact h2
 ·rw[if_pos (by omega),if_pos h];exact h1
theorem Dz4{ty:Int}{a b c:Vl}{s t u:Int}(h1:Bm0 ty a s b t<=0)(h2:Bm0 ty b t c u<=0):Bm0 ty a s c u<=0:=by
 have n1:=Bk7 ty a.nu a.n a.s b.nu b.n b.s
 have n2:=Bk7 ty b.nu b.n b.s c.nu c.n c.s
 have n3:=Bk7 ty a.nu a.n a.s c.nu c.n c.s
 have t1:=@Cv8 ty a.nu a.n a.s b.nu b.n b.s c.nu c.n c.s
 have t2:=@Cv8 ty b.nu b.n b.s c.nu c.n c.s a.nu a.n a.s
 have t3:=@Cv8 ty c.nu c.n c.s a.nu a.n a.s b.nu b.n b.s
 have i1:=@Bw2 s t
 have i2:=@Bw2 t u
 have i3:=@Bw2 s u
 unfold Bm0 at *
 generalize cmp ty a.nu a.n a.s b.nu b.n b.s=p at *
 generalize cmp ty b.nu b.n b.s c.nu c.n c.s=q at *
 generalize cmp ty a.nu a.n a.s c.nu c.n c.s=r at *
 generalize cmp ty b.nu b.n b.s a.nu a.n a.s=p' at *
 generalize cmp ty c.nu c.n c.s b.nu b.n b.s=q' at *
 generalize cmp ty c.nu c.n c.s a.nu a.n a.s=r' at *
 generalize cmpI s t=x at *
 generalize cmpI t u=y at *
 generalize cmpI s u=z at *
 by_cases hp:p=0
 ·rw[if_neg (by omega)] at h1
  by_cases hq:q=0
  ·rw[if_neg (by omega)] at h2
   have e1:=t1 (by omega) (by omega)
   by_cases hr:r=0
   ·rw[if_neg (by omega)]
    exact i3.2 (Int.le_trans (i1.1 h1) (i2.1 h2))
   ·rw[if_pos hr];exact e1
  ·rw[if_pos hq] at h2
   have e1:=t1 (by omega) h2
   by_cases hr:r=0
   ·exfalso
    have:=t3 (by omega) (by omega)
    omega
   ·rw[if_pos hr];exact e1
 ·rw[if_pos hp] at h1
  by_cases hq:q=0
  ·rw[if_neg (by omega)] at h2
   have e1:=t1 h1 (by omega)
   by_cases hr:r=0
   ·exfalso
    have:=t2 (by omega) (by omega)
    omega
   ·rw[if_pos hr];exact e1
  ·rw[if_pos hq] at h2
   have e1:=t1 h1 h2
   by_cases hr:r=0
   ·exfalso
    have:=t2 h2 (by omega)
    omega
   ·rw[if_pos hr];exact e1
def Ac9(k:Nat)(r:Rc):Vl:=r.row.getD k vl0
def Ac8(ty:Int)(k:Nat)(a b:Rc):Int:=Bm0 ty (Ac9 k a) a.seq (Ac9 k b) b.seq
def Am1(ty:Int)(k:Nat)(a b:Rc):Bool:=decide (Ac8 ty k a b<=0)
theorem Ag6(ty:Int)(k:Nat):Ord (Am1 ty k):=by
 refine⟨fun a b=>?_,fun a b c h1 h2=>?_⟩
 ·unfold Am1
  have:=Bf1 ty (Ac9 k a) a.seq (Ac9 k b) b.seq
  by_cases h:Ac8 ty k a b<=0
  ·exact .inl (Q4 h)
  ·refine .inr (Q4 ?_)
   unfold Ac8 at *;omega
 ·exact Q4 (Dz4 (of_decide_eq_true h1) (of_decide_eq_true h2))
theorem recLe_neg{ty:Int}{k:Nat}{a b:Rc}:Am1 ty k a b=false↔Ac8 ty k b a<0:=by
 have:=Bf1 ty (Ac9 k a) a.seq (Ac9 k b) b.seq
 unfold Am1 Ac8 at *
 rw[decide_eq_false_iff_not]
 omega
def Bc9(ty:Int)(k:Nat)(l:List Rc):List Rc:=srtL (Am1 ty k) l
theorem Dk1{ty:Int}{k:Nat}{l Aa:List Rc}(h:IsS (Am1 ty k) l Aa):Aa=Bc9 ty k l:=h.uniq (Ag6 ty k) (srtL_spec (Ag6 ty k) l)
section
variable {α:Type}
end
def colL(c:Nat)(l:List Rc):List Vl:=l.map fun r=>r.row.getD c ⟨true,0,⟨#[]⟩⟩
end Go.RS
namespace Go.RS
open RowKit VB VS VL SC CK Go.ST MK
def fe:List Nat->Nat
 | []=>0
 | e::r=>if e=0 then fe r else e
theorem Dw3:∀{l:List Nat}{j e:Nat},l[j]?=some e->(∀k,k<j->l[k]?=some 0)->¬e=0->fe l=e
 | [],j,e,h,_,_=>by simp at h
 | x::r,0,e,h,_,h0=>by
   simp at h;subst h
   show(if x=0 then fe r else x)=x
   rw[if_neg h0]
 | x::r,j+1,e,h,h1,h0=>by
   have hx:=h1 0 (by omega)
   simp at hx;subst hx
   show(if 0=0 then fe r else 0)=e
   rw[if_pos rfl]
   exact Dw3 (by simpa using h) (fun k hk=>by have:=h1 (k+1) (by omega);simpa using this) h0
theorem Cj3:∀{l:List Nat},(∀e∈l,e=0)->fe l=0
 | [],_=>rfl
 | x::r,h=>by
   show(if x=0 then fe r else x)=0
   rw[if_pos (h x (List.mem_cons_self ..)),Cj3 fun e he=>h e (List.mem_cons_of_mem _ he)]
def Ag5(cs:List Col)(l:List Vl):Nat:=if l.length=cs.length then fe ((List.range l.length).map fun i=>Ae6 (cs.getD i col0).ty (cs.getD i col0).nu (l.getD i vl0)) else 1
theorem Bp7{cs:List Col}{l:List Vl}(h:¬l.length=cs.length):Ag5 cs l=1:=if_neg h
theorem Bp8 {cs:List Col} {l:List Vl} {j:Nat} {x:Vl} (h:l.length=cs.length) (hx:l[j]?=some x) (h1:∀(k:Nat)(y:Vl),k<j->l[k]?=some y->Ae6 (cs.getD k col0).ty (cs.getD k col0).nu y=0)
   (h0:¬Ae6 (cs.getD j col0).ty (cs.getD j col0).nu x=0):Ag5 cs l=Ae6 (cs.getD j col0).ty (cs.getD j col0).nu x:=by
 unfold Ag5
 rw[if_pos h]
 have hj:j<l.length:=(List.getElem?_eq_some_iff.1 hx).1
 have Aa:∀k y,l[k]?=some y->l.getD k vl0=y:=fun k y hy=>by rw[List.getD_eq_getElem?_getD,hy];rfl
 refine Dw3 (j:=j) ?_ (fun k hk=>?_) h0
 ·rw[List.getElem?_map,List.getElem?_range hj,Option.map_some,Aa j x hx]
 ·have Ab:k<l.length:=by omega
  rw[List.getElem?_map,List.getElem?_range Ab,Option.map_some,Aa k l[k] (Q7 Ab),h1 k _ hk (Q7 Ab)]
theorem Av2{cs:List Col}{l:List Vl}(h:l.length=cs.length)(h1:∀(k:Nat)(y:Vl),l[k]?=some y->Ae6 (cs.getD k col0).ty (cs.getD k col0).nu y=0):Ag5 cs l=0:=by
 unfold Ag5
 rw[if_pos h]
 refine Cj3 fun e he=>?_
 obtain⟨k,hk,rfl⟩:=List.mem_map.1 he
 have Aa:k<l.length:=List.mem_range.1 hk
 have:l.getD k vl0=l[k]:=by rw[List.getD_eq_getElem?_getD,Q7 Aa];rfl
 rw[this]
 exact h1 k _ (Q7 Aa)
theorem Af1{cs:List Col}{l:List Vl}(h:Ag5 cs l=0):l.length=cs.length:=by
 unfold Ag5 at h
 by_cases hl:l.length=cs.length
 ·exact hl
 ·rw[if_neg hl] at h;cases h
def Ag3(cs:List Col)(r:Rc):Bool:=decide (0<=r.seq/\r.seq<=1099511627776/\Ag5 cs r.row=0)
def Bg2(cs:List Col)(key:Int)(l:List Rc):Bool:=decide (Ad9 cs key=0)&&l.all (Ag3 cs)
theorem Cn0{cs:List Col}{key:Int}{l:List Rc}(h:¬Ad9 cs key=0):Bg2 cs key l=false:=by unfold Bg2;rw[Q3 h];rfl
theorem Cn1{cs:List Col}{key:Int}{l:List Rc}{j:Nat}{r:Rc}(hr:l[j]?=some r)(h:Ag3 cs r=false):Bg2 cs key l=false:=by
 have:l.all (Ag3 cs)=false:=by
  rw[List.all_eq_false]
  exact⟨r,List.mem_of_getElem? hr,by rw[h];decide⟩
 unfold Bg2
 rw[this,Bool.and_false]
theorem Br6{cs:List Col}{key:Int}{l:List Rc}(h:Ad9 cs key=0)(h1:∀(k:Nat)(r:Rc),l[k]?=some r->Ag3 cs r=true):Bg2 cs key l=true:=by
 unfold Bg2
 rw[Q4 h,Bool.true_and,List.all_eq_true]
 intro r hr
 obtain⟨k,hk,rfl⟩:=List.mem_iff_getElem.1 hr
 exact h1 k _ (Q7 hk)
theorem Am7{cs:List Col}{key:Int}{l:List Rc}(h:Bg2 cs key l=true):Ad9 cs key=0/\∀r∈l,Ag3 cs r=true:=by
 unfold Bg2 at h
 obtain⟨h1,h2⟩:=Bool.and_eq_true_iff.1 h
 exact⟨of_decide_eq_true h1,List.all_eq_true.1 h2⟩
theorem Cq9{cs:List Col}{r:Rc}(h:r.seq<0):Ag3 cs r=false:=Q3 (by rintro⟨h1,_⟩;omega)
theorem Cr0{cs:List Col}{r:Rc}(h:1099511627776<r.seq):Ag3 cs r=false:=Q3 (by rintro⟨_,h1,_⟩;omega)
theorem Ca0{cs:List Col}{r:Rc}(h:¬Ag5 cs r.row=0):Ag3 cs r=false:=Q3 (by rintro⟨_,_,h1⟩;exact h h1)
theorem Bt3{cs:List Col}{r:Rc}(h1:¬r.seq<0)(h2:¬1099511627776<r.seq)(h3:Ag5 cs r.row=0):Ag3 cs r=true:=Q4 ⟨by omega,by omega,h3⟩
theorem Al2{cs:List Col}{r:Rc}(h:Ag3 cs r=true):0<=r.seq/\r.seq<=1099511627776/\r.row.length=cs.length:=by
 have:=of_decide_eq_true h
 exact⟨this.1,this.2.1,Af1 this.2.2⟩
def Be6(cs:List Col)(key:Int):Int:=(cs.getD key.toNat col0).ty
def Ec5(ty:Int)(k:Nat)(l:List Rc):Bool:=(List.range l.length).all fun i=>match l[i]?,l[i+1]? with
 | some a,some b=>decide (Ac8 ty k a b<0)
 | _,_=>true
theorem Cx1{ty:Int}{k:Nat}{l:List Rc}{i:Nat}{a b:Rc}(ha:l[i]?=some a)(hb:l[i+1]?=some b)(h:0<=Ac8 ty k a b):Ec5 ty k l=false:=by
 unfold Ec5
 rw[List.all_eq_false]
 refine⟨i,List.mem_range.2 (List.getElem?_eq_some_iff.1 ha).1,?_⟩
 rw[ha,hb]
 simpa using h
theorem Bw7{ty:Int}{k:Nat}{l:List Rc}(h:∀(i:Nat)(a b:Rc),l[i]?=some a->l[i+1]?=some b->Ac8 ty k a b<0):Ec5 ty k l=true:=by
 unfold Ec5
 rw[List.all_eq_true]
 intro i _
 cases ha:l[i]? with
 | none=>rfl
 | some a=>
   cases hb:l[i+1]? with
   | none=>rfl
   | some b=>exact Q4 (h i a b ha hb)
theorem Df9{ty:Int}{k:Nat}{l:List Rc}(h:Ec5 ty k l=true):∀(i:Nat)(a b:Rc),l[i]?=some a->l[i+1]?=some b->Ac8 ty k a b<0:=by
 intro i a b ha hb
 unfold Ec5 at h
 have:=List.all_eq_true.1 h i (List.mem_range.2 (List.getElem?_eq_some_iff.1 ha).1)
 rw[ha,hb] at this
 exact of_decide_eq_true this
def Ak3(cs:List Col)(key:Int)(l:List Rc):Bool:=Bg2 cs key l&&Ec5 (Be6 cs key) key.toNat l
theorem By0{cs:List Col}{key:Int}{l:List Rc}(h:Bg2 cs key l=false):Ak3 cs key l=false:=by unfold Ak3;rw[h];rfl
theorem Aw9{cs:List Col}{key:Int}{l:List Rc}(h:Bg2 cs key l=true):Ak3 cs key l=Ec5 (Be6 cs key) key.toNat l:=by unfold Ak3;rw[h];rfl
def Ap8(cs:List Col)(key:Int)(l:List Rc):List Rc:=if Bg2 cs key l=true then Bc9 (Be6 cs key) key.toNat l else[]
theorem Dk5{cs:List Col}{key:Int}{l:List Rc}(h:Bg2 cs key l=false):Ap8 cs key l=[]:=by unfold Ap8;rw[h];rfl
theorem Bg7{cs:List Col}{key:Int}{l:List Rc}(h:Bg2 cs key l=true):Ap8 cs key l=Bc9 (Be6 cs key) key.toNat l:=if_pos h
theorem Fb9{k:Nat}{r:Rc}{x:Vl}(h:r.row[k]?=some x):Ac9 k r=x:=by unfold Ac9;rw[List.getD_eq_getElem?_getD,h];rfl
def RetRs(e:TypeId)(l:List Rc)(w:World):Ending->World->Prop:=fun en w'=>∃v ps,en=.returned v/\OwnK recL e w' w.heap.size v ps/\DeepR w' w'.heap.size ps l/\Below w.heap.size w w'
theorem RetRs.mk{e:TypeId}{l:List Rc}{w w':World}{x v:Value}{ps:List Rs}(hx:x=v)(ho:OwnK recL e w' w.heap.size v ps)(hd:DeepR w' w'.heap.size ps l)(hb:Below w.heap.size w w'):RetRs e l w (.returned x) w':=⟨v,ps,by rw[hx],ho,hd,hb⟩
theorem OwnK.rdR{e:TypeId}{w:World}{base:Nat}{v:Value}{ps:List Rs}{l:List Rc}(h:OwnK recL e w base v ps)(hd:DeepR w w.heap.size ps l):RdR w w.heap.size v l:=⟨ps,h.read,hd⟩
end Go.RS
namespace Go.MK
open RowKit VB VS ChangeShapes WideShapes ChangeAt Deep
section
variable {H:Type} {enc:TypeId×Value->H} {P:Program} {w:World} {held:Bool} {α:Type}
end
def valL:Lay Vl where
 K:=3
 cs:=Vl.cells
 len _:=rfl
 pos:=by decide
 one x u hu:=by
  simp only[Vl.cells,List.mem_cons,List.not_mem_nil,or_false] at hu
  rcases hu with rfl | rfl | rfl<;>rfl
 z:=vl0
 zv:=vl0.val
 zc:=rfl
end Go.MK
namespace Go.RS
open RowKit VB VS MK
end Go.RS
namespace Go.P
open RowKit VB VS MK RS ChangeShapes WideShapes ChangeAt Deep
section
variable {H:Type} {enc:TypeId×Value->H} {w:World} {held:Bool}
end
end Go.P
namespace Go.RS
open RowKit VB VS MK
def SameP(p:Prop)(w:World):Ending->World->Prop:=fun en w'=>∃b:Bool,en=.returned (.bool b)/\(b=true↔p)/\Below w.heap.size w w'
theorem SameP.no{p:Prop}{w w':World}{x:Value}(hx:x=.bool false)(hp:¬p)(hb:Below w.heap.size w w'):SameP p w (.returned x) w':=⟨false,by rw[hx],by simp[hp],hb⟩
theorem SameP.yes{p:Prop}{w w':World}{x:Value}(hx:x=.bool true)(hp:p)(hb:Below w.heap.size w w'):SameP p w (.returned x) w':=⟨true,by rw[hx],by simp[hp],hb⟩
theorem Dh9(a b:Vl):a=b\/(a.nu=true/\b.nu=false)\/(a.nu=false/\b.nu=true)\/(a.nu=b.nu/\¬a.n=b.n)\/(a.nu=b.nu/\a.n=b.n/\¬a.s.toList=b.s.toList):=by
 obtain⟨x,n,s⟩:=a;obtain⟨y,m,t⟩:=b
 by_cases h2:s.toList=t.toList
 ·have h3:s=t:=by
    rw[ByteArray.toList_eq,ByteArray.toList_eq] at h2
    cases s;cases t;simp only[ByteArray.mk.injEq];exact Array.toList_inj.1 h2
  subst h3
  by_cases h1:n=m<;>cases x<;>cases y<;>simp_all
 ·by_cases h1:n=m<;>cases x<;>cases y<;>simp_all
section
variable {w w':World} {B B':Nat} {v:Value} {ps:List Sl} {ls ms:List (List Rc)} {lv:List (List Vl)} {A:Option Addr} {n c i:Nat}
end
end Go.RS
namespace Go.P
open RowKit VB VS MK RS
theorem same_v(x y:Value)(l m:List Vl)(w:World)(hx:RdL w w.heap.size x l)(hy:RdL w w.heap.size y m):Calls Tryz.prog 32 #[x,y] w (SameP (l=m) w):=by
 obtain⟨A,c,k1,rfl,rfl,An,Ak⟩:=hx.bds
 obtain⟨A',c',k2,rfl,rfl,Ai,Aj⟩:=hy.bds
 have HX:=Hd hx;have HY:=Hd hy;clear hx hy
 go_enter Tryz.func32,Tryz.ntmps32
 by_cases hlen:l.length=m.length
 case neg=>
  go_wp2
  go_ret
  exact SameP.no rfl (fun h=>hlen (by rw[h])) (Q2 _ _)
 rw[hlen]
 go_wp2
 go_loopw[13] (fun i wr=>∃j:Nat,i=.int .i64 j/\j<=m.length/\(∀i<j,l[i]?=m[i]?)/\Below w.heap.size w wr) (fun i _=>m.length-(intOf i).toNat)
 case atStart=>exact⟨0,rfl,Nat.zero_le _,fun i hi=>absurd hi (by omega),Q2 _ _⟩
 case round=>
  obtain⟨j,rfl,hj,Ac,Aa⟩:=hrel
  have HA:=Hd Ac;clear Ac
  by_cases hlt:j<m.length
  ·have Af:l[j]?=some l[j]:=Q7 (by omega)
   have Ad:m[j]?=some m[j]:=Q7 hlt
   obtain⟨ad,rfl,_,q0,q1,q2⟩:=(HX.out.below Aa).at Af
   obtain⟨Al,rfl,_,p0,p1,p2⟩:=(HY.out.below Aa).at Ad
   have Ae:=Hd Af;have HE2:=Hd Ad;clear Af Ad
   generalize l[j]=V at Ae q0 q1 q2
   generalize m[j]=U at HE2 p0 p1 p2
   obtain⟨vb,vn,vs⟩:=V
   obtain⟨ub,un,us⟩:=U
   have Ag:¬(⟨vb,vn,vs⟩:Vl)=⟨ub,un,us⟩->¬l=m:=fun h1 h2=>h1 (by have:=Ae.out;rw[h2,HE2.out] at this;injection this with h3;exact h3.symm)
   have HN:=Hd Ag;clear Ag
   simp only at q0 q1 q2 p0 p1 p2
   rcases Dh9 ⟨vb,vn,vs⟩ ⟨ub,un,us⟩ with he | ⟨h1,h2⟩ | ⟨h1,h2⟩ | ⟨h1,h2⟩ | ⟨h1,h2,h3⟩
   case inl=>
    injection he with e1 e2 e3
    subst e1 e2 e3
    have Ab:∀i<j+1,l[i]?=m[i]?:=fun i hi=>by
     by_cases h:i=j
     ·rw[h,Ae.out,HE2.out]
     ·exact HA.out i (by omega)
    have Ah:=Hd Ab;clear Ab
    go_wp2_with fail
    go_region
    go_wp2_with fail
    go_roundw
    case rel=>exact⟨j+1,by go_num,hlt,Ah.out,Aa.drew⟩
    case measure=>simp[intOf]<;>omega
   all_goals simp only at h1 h2
   all_goals subst h1
   all_goals try subst h2
   all_goals go_wp2_with fail
   all_goals go_region
   all_goals go_wp2_with fail
   all_goals go_ret
   all_goals exact SameP.no rfl (HN.out (by intro h;injection h;simp_all)) Aa.drew
  ·go_wp2
   go_ret
   exact SameP.yes rfl (List.ext_getElem? fun i=>by
    by_cases hi:i<j
    ·exact HA.out i hi
    ·rw[List.getElem?_eq_none (by omega),List.getElem?_eq_none (by omega)]) Aa
theorem Ef1(a b:Rc)(x y:Value)(w:World)(hx:RdL w w.heap.size x a.row)(hy:RdL w w.heap.size y b.row):Calls Tryz.prog 68 #[.agg #[.int .i64 a.seq,x],.agg #[.int .i64 b.seq,y]] w (SameP (a=b) w):=by
 obtain⟨an,al⟩:=a;obtain⟨bn,bl⟩:=b
 simp only at hx hy⊢
 have HS:=fun w'(h:Below w.heap.size w w')=>Hd (same_v x y al bl w' (hx.step h) (hy.step h))
 have Ab:∀u v:Obj,Below w.heap.size w ((w.alloc u).alloc v):=fun u v=>((Q2 _ _).alloc (Q1 _) u).alloc (by simp) v
 have Ac:∀u v:Obj,w.heap.size<=((w.alloc u).alloc v).heap.size:=fun u v=>by simp;omega
 clear hx hy
 go_enter Tryz.func68,Tryz.ntmps68
 by_cases hn:an=bn
 ·subst hn
  go_wp2_with(first | ((with_reducible refine(HS _ (Ab _ _)).out.mono ?_);rintro e w1 ⟨b,rfl,hb,Aa⟩;have Aa:=(Ab _ _).trans (Aa.mono (Ac _ _));cases b) | fail)
  all_goals go_wp2
  all_goals go_ret
  ·exact SameP.no rfl (fun h=>by injection h with _ h2;simp[h2] at hb) Aa
  ·exact SameP.yes rfl (by rw[hb.1 trivial]) Aa
 ·go_wp2
  go_ret
  exact SameP.no rfl (fun h=>by injection h with h1;exact hn h1) (Ab _ _)
theorem Dl6(x y:Value)(l m:List Rc)(w:World)(hx:RdR w w.heap.size x l)(hy:RdR w w.heap.size y m):Calls Tryz.prog 29 #[x,y] w (SameP (l=m) w):=by
 obtain⟨A,c,k1,rfl,rfl,An,Ak⟩:=hx.bds
 obtain⟨A',c',k2,rfl,rfl,Ai,Aj⟩:=hy.bds
 have HX:=Hd hx;have HY:=Hd hy;clear hx hy
 go_enter Tryz.func29,Tryz.ntmps29
 by_cases hlen:l.length=m.length
 case neg=>
  go_wp2
  go_ret
  exact SameP.no rfl (fun h=>hlen (by rw[h])) (Q2 _ _)
 rw[hlen]
 go_wp2
 go_loopw[13] (fun i wr=>∃j:Nat,i=.int .i64 j/\j<=m.length/\(∀i<j,l[i]?=m[i]?)/\Below w.heap.size w wr) (fun i _=>m.length-(intOf i).toNat)
 case atStart=>exact⟨0,rfl,Nat.zero_le _,fun i hi=>absurd hi (by omega),Q2 _ _⟩
 case round=>
  obtain⟨j,rfl,hj,Ad,Aa⟩:=hrel
  have HA:=Hd Ad;clear Ad
  by_cases hlt:j<m.length
  ·have Ag:l[j]?=some l[j]:=Q7 (by omega)
   have Ae:m[j]?=some m[j]:=Q7 hlt
   obtain⟨ad,rA,rn,rc,rfl,_,q0,q1,qn,qr⟩:=(HX.out.below Aa).at Ag
   obtain⟨Al,sA,sn,sc,rfl,_,p0,p1,pn,pr⟩:=(HY.out.below Aa).at Ae
   have Af:=Hd Ag;have HE2:=Hd Ae;clear Ag Ae qn pn
   generalize l[j]=V at Af q0 q1 qr
   generalize m[j]=U at HE2 p0 p1 pr
   have Ah:¬V=U->¬l=m:=fun h1 h2=>h1 (by have:=Af.out;rw[h2,HE2.out] at this;injection this with h3;exact h3.symm)
   have Ac:V=U->∀i<j+1,l[i]?=m[i]?:=fun he i hi=>by
    by_cases h:i=j
    ·rw[h,Af.out,HE2.out,he]
    ·exact HA.out i (by omega)
   have HN:=Hd Ah;have HYS:=Hd Ac;clear Ah Ac
   have hQ:=Hd (Ef1 V U _ _ wr.drew (qr.more Aa.size |>.step (Q2 _ _).drew) (pr.more Aa.size |>.step (Q2 _ _).drew))
   clear qr pr
   go_wp2_with fail
   go_region_with(first | ((with_reducible refine hQ.out.mono ?_);rintro e w1 ⟨b,rfl,hb,Ab⟩;have hbel2:=Aa0 Aa.drew Ab;clear Ab) | fail)
   all_goals cases b
   all_goals go_wp2_with fail
   all_goals first
    | (go_ret;exact SameP.no rfl (HN.out (fun h=>by simpa using hb.2 h)) hbel2)
    | (have h1:=Hd (HYS.out (hb.1 rfl));clear hb;go_roundw;(case rel=>exact⟨j+1,by go_num,hlt,h1.out,hbel2⟩);(case measure=>simp[intOf]<;>omega))
  ·go_wp2
   go_ret
   exact SameP.yes rfl (List.ext_getElem? fun i=>by
    by_cases hi:i<j
    ·exact HA.out i hi
    ·rw[List.getElem?_eq_none (by omega),List.getElem?_eq_none (by omega)]) Aa
end Go.P
