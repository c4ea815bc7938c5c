/- The walks over package chunk: getPlainValue, getPlain, getPayload. -/
import Derived.Test.YtnmlajmaffiigaaGreatDoorCkW4
import Derived.Test.YtnmlajmaffiigaaGreatDoorDlt
set_option linter.constructorNameAsVariable false
set_option maxRecDepth 100000
set_option maxHeartbeats 1000000
open Go Go.Proofs Go.Proofs.YtnmlajmaffiigaaGreatDoor Go.P
namespace Go.CK
open RowKit VB VS
def PlP(D:Option (List Vl))(w:World):Ending->World->Prop:=fun en w'=>
 ∃v l b,en=.returned (.tuple #[v,.bool b])/\RdL w' w'.heap.size v l/\((b=true/\D=some l)\/(b=false/\D=none))/\Below w.heap.size w w'
theorem PlP.mk{D:Option (List Vl)}{w w':World}{x v:Value}{l:List Vl}{b:Bool}(hx:x=.tuple #[v,.bool b])(hr:RdL w' w'.heap.size v l)(hd:(b=true/\D=some l)\/(b=false/\D=none))(hb:Below w.heap.size w w'):PlP D w (.returned x) w':=⟨v,l,b,by rw[hx],hr,hd,hb⟩
def PlO(e:TypeId)(D:Option (List Vl))(w:World):Ending->World->Prop:=fun en w'=>
 ∃v l b,en=.returned (.tuple #[v,.bool b])/\OwnL e w' w.heap.size v l/\((b=true/\D=some l)\/(b=false/\D=none))/\Below w.heap.size w w'
theorem PlO.mk{e:TypeId}{D:Option (List Vl)}{w w':World}{x v:Value}{l:List Vl}{b:Bool}(hx:x=.tuple #[v,.bool b])(hr:OwnL e w' w.heap.size v l)(hd:(b=true/\D=some l)\/(b=false/\D=none))(hb:Below w.heap.size w w'):PlO e D w (.returned x) w':=⟨v,l,b,by rw[hx],hr,hd,hb⟩
end Go.CK
namespace Go.P
open RowKit VB VarM BP RL VS VL DI CK NU
section
variable (typ:Int) (s:ByteArray) (p:Int) (W:World) (zs:s.size<=140737488351232)
include zs
theorem Fd4{a e:Nat}{b:Int}(hg:Aa2 s p=(a,b,e))(he:e≠0):Calls Tryz.prog 247 #[.int .i64 typ,.string s,.int .i64 p] W (RetB (.tuple #[vl0.val,.int .i64 0,.bool false]) W):=by
 have HG:=fun w=>Hd (Al0 s p w (by unfold maxLen;omega) hg)
 have hd:((e:Int)!=0)=true:=Ab5 (by omega)
 have hb:Below W.heap.size W (W.alloc (.cells #[.bool false,.int .i64 0,.string ⟨#[]⟩] 49)):=(Q2 _ _).alloc (Q1 _) _
 clear hg he
 go_enter Tryz.func247,Tryz.ntmps247
 go_wp2_with fail
 (with_reducible refine(HG _).out.mono ?_);rintro e w1 ⟨rfl,rfl⟩
 go_wp2
 refine bodyPost_ret (v:=.tuple #[vl0.val,.int .i64 0,.bool false]) (by simp[results,Tryz.results247,go_sem,vl0,Vl.val]) rfl ?_
 exact RetB.mk rfl hb
theorem Du5{a:Nat}{b:Int}(hg:Aa2 s p=(a,b,0))(ht:typ≠3):Calls Tryz.prog 247 #[.int .i64 typ,.string s,.int .i64 p] W (RetB (.tuple #[(⟨false,Ak0 a,⟨#[]⟩⟩:Vl).val,.int .i64 b,.bool true]) W):=by
 obtain⟨k,m,-,-,-,-,-,ha⟩:=getR_zero hg
 have HG:=fun w=>Hd (Ae7 s p w (by unfold maxLen;omega) hg)
 have HZ:=fun w=>Hd (Bd3 (a:Int) w (by omega) (by omega))
 have hd:(typ !=3)=true:=Ab5 ht
 have hb:Below W.heap.size W (W.alloc (.cells #[.bool false,.int .i64 (Ak0 a),.string ⟨#[]⟩] 49)):=(Q2 _ _).alloc (Q1 _) _
 generalize Ak0 a=z at *
 clear hg ht
 go_enter Tryz.func247,Tryz.ntmps247
 go_wp2_with fail
 (with_reducible refine(HG _).out.mono ?_);rintro e w1 ⟨rfl,rfl⟩
 go_wp2_with fail
 (with_reducible refine(HZ _).out.mono ?_);rintro e w1 ⟨rfl,rfl⟩
 go_wp2
 refine bodyPost_ret (v:=.tuple #[(⟨false,z,⟨#[]⟩⟩:Vl).val,.int .i64 b,.bool true]) (by simp[results,Tryz.results247,go_sem,Vl.val]) rfl ?_
 exact RetB.mk rfl hb
theorem Dd1{a b:Nat}(hg:Aa2 s p=(a,(b:Int),0))(Ab:b<=s.size)(h:s.size<b+a):Calls Tryz.prog 247 #[.int .i64 3,.string s,.int .i64 p] W (RetB (.tuple #[vl0.val,.int .i64 0,.bool false]) W):=by
 have HG:=fun w=>Hd (Ae7 s p w (by unfold maxLen;omega) hg)
 have Aa:wrap64 ((s.size:Int)-(b:Int))=(s.size:Int)-(b:Int):=by unfold wrap64;omega
 have Ac:IntKind.u64.wrap ((s.size:Int)-(b:Int))=(s.size:Int)-(b:Int):=by rw[IntKind.wrap_u64];omega
 have hd:decide ((s.size:Int)-(b:Int)<(a:Int))=true:=Q4 (by omega)
 have hb:Below W.heap.size W (W.alloc (.cells #[.bool false,.int .i64 0,.string ⟨#[]⟩] 49)):=(Q2 _ _).alloc (Q1 _) _
 clear hg
 go_enter Tryz.func247,Tryz.ntmps247
 go_wp2_with fail
 (with_reducible refine(HG _).out.mono ?_);rintro e w1 ⟨rfl,rfl⟩
 go_wp2
 refine bodyPost_ret (v:=.tuple #[vl0.val,.int .i64 0,.bool false]) (by simp[results,Tryz.results247,go_sem,vl0,Vl.val]) rfl ?_
 exact RetB.mk rfl hb
theorem Dd0{a b:Nat}(hg:Aa2 s p=(a,(b:Int),0))(h:b+a<=s.size):Calls Tryz.prog 247 #[.int .i64 3,.string s,.int .i64 p] W (RetB (.tuple #[(⟨false,0,s.extract b (b+a)⟩:Vl).val,.int .i64 ((b:Int)+a),.bool true]) W):=by
 have HG:=fun w=>Hd (Ae7 s p w (by unfold maxLen;omega) hg)
 have Ab:wrap64 ((s.size:Int)-(b:Int))=(s.size:Int)-(b:Int):=by unfold wrap64;omega
 have Ae:IntKind.u64.wrap ((s.size:Int)-(b:Int))=(s.size:Int)-(b:Int):=by rw[IntKind.wrap_u64];omega
 have hd:decide ((s.size:Int)-(b:Int)<(a:Int))=false:=Q3 (by omega)
 have Aa:wrap64 (a:Int)=(a:Int):=by unfold wrap64;omega
 have Ac:wrap64 ((b:Int)+(a:Int))=((b+a:Nat):Int):=by unfold wrap64;omega
 have Af:(b:Int)<=((b+a:Nat):Int):=by omega
 have Ad:((b+a:Nat):Int)<=(s.size:Int):=by omega
 have hb:Below W.heap.size W (W.alloc (.cells #[.bool false,.int .i64 0,.string (s.extract b (b+a))] 49)):=(Q2 _ _).alloc (Q1 _) _
 clear hg
 go_enter Tryz.func247,Tryz.ntmps247
 go_wp2_with fail
 (with_reducible refine(HG _).out.mono ?_);rintro e w1 ⟨rfl,rfl⟩
 go_wp2
 refine bodyPost_ret (v:=.tuple #[(⟨false,0,s.extract b (b+a)⟩:Vl).val,.int .i64 ((b:Int)+a),.bool true]) (by simp[results,Tryz.results247,go_sem,Vl.val]) rfl ?_
 exact RetB.mk rfl hb
theorem Du6:Calls Tryz.prog 247 #[.int .i64 typ,.string s,.int .i64 p] W (RetB (.tuple #[(pv1 typ s p).1.val,.int .i64 (pv1 typ s p).2.1,.bool (pv1 typ s p).2.2]) W):=by
 obtain⟨a,b,e,hg⟩:∃a b e,Aa2 s p=(a,b,e):=⟨_,_,_,rfl⟩
 by_cases he:e=0
 ·subst he
  obtain⟨k,m,-,rfl,-,Ab,-,-⟩:=getR_zero hg
  by_cases ht:typ=3
  ·subst ht
   have Aa:Aa2 s p=(a,((k+m:Nat):Int),0):=by rw[hg];push_cast;rfl
   by_cases h:s.size<k+m+a
   ·rw[Eg3 hg (by omega)]
    exact Dd1 s p W zs Aa Ab h
   ·rw[Eg2 Aa (by omega)]
    exact Dd0 s p W zs Aa (by omega)
  ·rw[Ey8 hg ht]
   exact Du5 typ s p W zs hg ht
 ·rw[pv1_e hg he]
  exact Fd4 typ s p W zs hg he
end
theorem Cb6(typ:Int)(s:ByteArray)(n:Nat)(W:World)(zs:s.size<=140737488351232)(hn:n<=4096):Calls Tryz.prog 225 #[.int .i64 typ,.string s,.int .i64 (n:Int)] W (PlP (Ae5 typ s n 0 []) W):=by
 have Ar:=fun p w=>Hd (Du6 typ s p w zs)
 have Au:=Hd (Da4 typ s)
 have Ag:=Cz2 (P:=Tryz.prog) Tryz.underlying63 Tryz.infVal n (by omega) (by unfold maxLen;omega) W
 have Ab:=OwnL.made0 49 W W.heap.size n (Q1 _) (by unfold maxLen;omega)
 have Ak:Below W.heap.size W (W.alloc (.cells (madeCells #[.bool false,.int .i64 0,.string ⟨#[]⟩] (n*3)) 49)):=(Q2 _ _).alloc (Q1 _) _
 generalize (W.alloc (.cells (madeCells #[.bool false,.int .i64 0,.string ⟨#[]⟩] (n*3)) 49))=W1 at Ag Ab Ak
 have Ay:=Hd (fun(p:Int)(acc:List Vl)(h:p=s.size)=>Bo0 (typ:=typ) (s:=s) (p:=p) (acc:=acc) h)
 have As:=Hd (fun(p:Int)(acc:List Vl)(h:¬p=s.size)=>Cg9 (typ:=typ) (s:=s) (p:=p) (acc:=acc) h)
 generalize hD:Ae5 typ s n 0 []=D
 have HD:=Hd hD;clear hD
 generalize pv1 typ s=PV at *
 go_enter Tryz.func225,Tryz.ntmps225
 go_wp2
 clear Ag
 go_loopw[6,7,8,9,16] (fun r1 r2 pv q i wr=>∃(j:Nat)(p:Int)(acc:List Vl),r1=.slice none 0 0/\r2=.bool false/\i=.int .i64 j/\q=.int .i64 p/\j<=n/\acc.length=j/\OwnL 49 wr W.heap.size pv acc/\Ae5 typ s (n-j) p acc=D/\Below W.heap.size W wr) (fun _ _ _ _ i _=>n-(intOf i).toNat)
 case atStart=>exact⟨0,0,[],rfl,rfl,rfl,rfl,Nat.zero_le _,rfl,Ab,HD.out,Ak⟩
 case round=>
  clear Ab Ak
  obtain⟨j,p,acc,rfl,rfl,rfl,rfl,hj,Ah,Ab,Al,Ac⟩:=hrel
  have Ao:=Hd Al;clear Al
  by_cases hlt:j<n
  ·have HS:=Hd (Au.out (n-(j+1)) p acc)
   rw[show n-(j+1)+1=n-j from by omega,Ao.out] at HS
   obtain⟨x,q,ok,Ai⟩:∃x q ok,PV p=(x,q,ok):=⟨_,_,_,rfl⟩
   have HG:=fun w=>Hd (Ar p w).out
   rw[Ai] at HG HS
   obtain⟨xb,xn,xs⟩:=x
   simp only[Vl.val] at HG
   have Ba:=Hd Ai;clear Ai
   have Aw:=Ac.size
   cases ok
   ·have HN:=Hd (show D=none from HS.out)
    go_wp2_with fail
    (with_reducible refine(HG _).out.mono ?_);rintro e w2 ⟨rfl,Ae⟩
    have Aa:=Aa0 Ac Ae
    go_wp2
    go_ret2
    exact PlP.mk rfl (RdL.nil _ _) (.inr ⟨rfl,HN.out⟩) (Aa.alloc Aa.size _)
   ·have HN:=Hd (show D=Ae5 typ s (n-(j+1)) q (acc++[⟨xb,xn,xs⟩]) from HS.out)
    go_wp2_with fail
    (with_reducible refine(HG _).out.mono ?_);rintro e w2 ⟨rfl,Ae⟩
    have Aa:=Aa0 Ac Ae
    have Aj:=Aa.size
    have Ad:=Ab.below Ae
    clear Ab Ac Ae HG HS
    have Ax:Hid (RdL ((w2.alloc (.cells #[.bool xb,.int .i64 xn,.string xs] 49)).alloc (.cells #[.bool xb,.int .i64 xn,.string xs] 49)) (w2.heap.size+1+1) (.slice (some ⟨w2.heap.size+1,0,none⟩) 1 1) [⟨xb,xn,xs⟩]):=by
     have h:=RdL.lit (w2.alloc (.cells #[.bool xb,.int .i64 xn,.string xs] 49)) [⟨xb,xn,xs⟩] 1 49 (Q1 1) (by decide)
     rw[show(w2.alloc (.cells #[.bool xb,.int .i64 xn,.string xs] 49)).heap.size=w2.heap.size+1 from by simp] at h
     exact Hd h
    have HO:=Hd ((Ad.alloc (.cells #[.bool xb,.int .i64 xn,.string xs] 49)).alloc (.cells #[.bool xb,.int .i64 xn,.string xs] 49))
    have An:=Hd ((Aa.alloc Aj (.cells #[.bool xb,.int .i64 xn,.string xs] 49)).alloc (by simp;omega) (.cells #[.bool xb,.int .i64 xn,.string xs] 49))
    have Aq:=Hd (show acc.length+[(⟨xb,xn,xs⟩:Vl)].length<=1000000 by simp only[Q6,Q8];omega)
    have Az:=Hd An.out.size
    clear Ad Aa
    go_wp2_with(at_builtin;refine Cm6 rfl _ _ 63 rfl W.heap.size 49 Tryz.underlying63 Tryz.infVal _ acc rfl HO.out _ _ [⟨xb,xn,xs⟩] rfl Ax.out Aq.out Az.out ?_)
    intro v' w' Af Ap _
    go_wp2_with fail
    go_roundw
    case rel=>exact⟨j+1,q,acc++[⟨xb,xn,xs⟩],rfl,rfl,by go_num,rfl,hlt,by rw[Q5];simp[Ah],Af,HN.out.symm,An.out.trans Ap⟩
    case measure=>simp[intOf]<;>omega
  ·have hz:n-j=0:=by omega
   have HZ:=Ao.out
   rw[hz] at HZ
   have HZ:=Hd HZ
   have hr:=Ab.read
   by_cases hp:p=s.size
   ·have HE:=Hd (HZ.out.symm.trans (Ay.out p acc hp))
    have hd:(p==(s.size:Int))=true:=Bm4 hp
    clear Ab hp
    go_wp2
    go_ret2
    exact PlP.mk rfl hr (.inl ⟨rfl,HE.out⟩) Ac
   ·have HE:=Hd (HZ.out.symm.trans (As.out p acc hp))
    have hd:(p==(s.size:Int))=false:=Ab3 hp
    clear Ab hp
    go_wp2
    go_ret2
    exact PlP.mk rfl hr (.inr ⟨rfl,HE.out⟩) Ac
end Go.P
namespace Go.CK
open RowKit VB VarM BP VS NU
def NuP(D:Option (List Bool×Nat))(w:World):Ending->World->Prop:=fun en w'=>
 ∃v b q ok,en=.returned (.tuple #[v,.int .i64 q,.bool ok])/\RdV Value.bool w' w'.heap.size v b/\((ok=true/\∃k:Nat,q=k/\D=some (b,k))\/(ok=false/\D=none))/\Below w.heap.size w w'
theorem NuP.no{D:Option (List Bool×Nat)}{w w':World}{x:Value}{q:Int}(hx:x=.tuple #[.slice none 0 0,.int .i64 q,.bool false])(hd:D=none)(hb:Below w.heap.size w w'):NuP D w (.returned x) w':=⟨_,_,_,_,by rw[hx],RdV.nil _ _ _,.inr ⟨rfl,hd⟩,hb⟩
theorem NuP.yes{D:Option (List Bool×Nat)}{w w':World}{x v:Value}{k:Nat}{b:List Bool}(hx:x=.tuple #[v,.int .i64 (k:Int),.bool true])(hr:RdV Value.bool w' w'.heap.size v b)(hd:D=some (b,k))(hb:Below w.heap.size w w'):NuP D w (.returned x) w':=⟨_,_,_,_,by rw[hx],hr,.inl ⟨rfl,_,rfl,hd⟩,hb⟩
section
variable {s:ByteArray} {p q:Int} {n e k r f m:Nat}
theorem Et0(h1:Aa2 s p=(n,q,e))(he:e≠0):As0 s p=none:=by unfold As0;rw[h1,if_pos (.inl he)]
theorem Cr4(h1:Aa2 s p=(n,q,0))(h:4096<n):As0 s p=none:=by unfold As0;rw[h1,if_pos (.inr h)]
theorem Dq0{q2:Int}(h1:Aa2 s p=(n,q,0))(hn:n<=4096)(h2:Aa2 s q=(k,q2,e))(he:e≠0):As0 s p=none:=by
 unfold As0;rw[h1,if_neg (by simp only;omega)];simp only;rw[h2,if_pos he]
theorem Ca4(h1:Aa2 s p=(n,q,0))(hn:n<=4096)(h2:Aa2 s q=(0,(r:Int),0)):As0 s p=some (List.replicate n false,r):=by
 unfold As0;rw[h1,if_neg (by simp only;omega)];simp only;rw[h2,if_neg (by simp),if_pos rfl];rfl
theorem Bo4(h1:Aa2 s p=(n,q,0))(hn:n<=4096)(h2:Aa2 s q=(k,(r:Int),0))(hk:k≠0)(hm:(n+7)/8=m)(hs:s.size<r+m):As0 s p=none:=by
 subst hm
 unfold As0;rw[h1,if_neg (by simp only;omega)];simp only;rw[h2,if_neg (by simp),if_neg hk,if_pos (by simpa using hs)]
theorem Bt6{B:ByteArray}(h1:Aa2 s p=(n,q,0))(hn:n<=4096)(h2:Aa2 s q=(k,(r:Int),0))(hk:k≠0)(hm:(n+7)/8=m)(hs:r+m<=s.size)(hB:s.extract r (r+m)=B)(hb:(upk B n).2≠0\/ones (num B) (8*m)≠k):As0 s p=none:=by
 subst hm;subst hB
 unfold As0;rw[h1,if_neg (by simp only;omega)];simp only;rw[h2,if_neg (by simp),if_neg hk,if_neg (by simpa using hs),if_pos (by simpa using hb)]
theorem Dp9{B:ByteArray}(h1:Aa2 s p=(n,q,0))(hn:n<=4096)(h2:Aa2 s q=(k,(r:Int),0))(hk:k≠0)(hm:(n+7)/8=m)(hs:r+m<=s.size)(hB:s.extract r (r+m)=B)(hb:(upk B n).2=0)(hc:ones (num B) (8*m)=k):As0 s p=some ((upk B n).1,r+m):=by
 subst hm;subst hB
 unfold As0;rw[h1,if_neg (by simp only;omega)];simp only;rw[h2,if_neg (by simp),if_neg hk,if_neg (by simpa using hs),if_neg (by simp only[Int.toNat_natCast];omega)];rfl
end
theorem Cz1{P:Program}{t e:TypeId}(ht:P.underlying t=some (.slice e))(Aa:(P.info? e).map (fun i=>(i.zero,i.size,i.bytes))=some (some (.bool false),1,1))(n:Nat)(hn:n<=4096)(w:World):
   (Instr.makeSlice t (.int .u64 (n:Int)) (.int .u64 (n:Int))).run P w=.ok (.slice (some ⟨w.heap.size,0,none⟩) n n) (w.alloc (.cells (madeCells #[.bool false] n) e)):=by
 obtain⟨i,hi,hz,Ac,Ab⟩:=info_parts Aa
 have h:=run_make (P:=P) w t e i (.bool false) ht hi hz .u64 .u64 n n (by omega) (Int.le_refl _) (by rw[Ab,←Int.natCast_mul];omega) (by omega)
 rw[Int.toNat_natCast,Ac,Nat.mul_one] at h
 exact h
theorem Ej5{n r m z O:Nat}(hn:n<=4096)(hm:(n+7)/8=m)(hs:r+m<=z)(hz:z<=140737488351232)(hO:O<=8*m):
   decide ((4096:Int)<(n:Int))=false/\decide (4096<n)=false/\wrap64 (n:Int)=(n:Int)/\((n:Int)+8-1)/8=(m:Int)/\((n:Int)+8-1).tdiv 8=(m:Int)/\wrap64 ((r:Int)+(m:Int))=(r:Int)+(m:Int) /\
   decide ((z:Int)<((r+m:Nat):Int))=false/\decide ((z:Int)<(r:Int)+(m:Int))=false/\(r:Int)<=((r+m:Nat):Int)/\((r+m:Nat):Int)<=(z:Int)/\(r:Int)<=(r:Int)+(m:Int)/\(r:Int)+(m:Int)<=(z:Int)/\IntKind.u64.wrap (O:Int)=(O:Int):=by
 have Aa:((n:Int)+8-1)/8=(m:Int):=by omega
 refine⟨Q3 (by omega),Q3 (by omega),by unfold wrap64;omega,Aa,by rw[Int.tdiv_eq_ediv_of_nonneg (by omega)];exact Aa,by unfold wrap64;omega,Q3 (by omega),Q3 (by omega),by omega,by omega,by omega,by omega,by rw[IntKind.wrap_u64];omega⟩
end Go.CK
namespace Go.P
open RowKit VB VarM BP RL VS VL DI CK NU
section
variable (typ:Int) (s:ByteArray) (n:Nat) (W:World) (zs:s.size<=140737488351232) (hn:n<=4096)
include zs hn
theorem Ek3:Calls Tryz.prog 191 #[.int .i64 typ,.int .i64 1,.string s,.int .i64 (n:Int)] W (PlP (Bl8 typ 1 s n) W):=by
 rw[Es4]
 have HP:=Hd (Cb6 typ s n W zs hn)
 generalize Ae5 typ s n 0 []=D at *
 go_enter Tryz.func191,Tryz.ntmps191
 go_wp2_with fail
 (with_reducible refine HP.out.mono ?_);rintro e w1 ⟨v,l,b,rfl,hr,hd,hb⟩
 have HD:=Hd hd;clear hd
 go_wp2
 go_ret2
 exact PlP.mk rfl hr HD.out hb
theorem Ek2:Calls Tryz.prog 191 #[.int .i64 typ,.int .i64 2,.string s,.int .i64 (n:Int)] W (PlP (Bl8 typ 2 s n) W):=by
 rw[Es3]
 have Af:=Hd (Fe7 (s:=s) hn)
 have HP:=Hd (show Calls Tryz.prog _ #[.string s,.int .i64 (n:Int)] W (RetVE (Value.int .i64) 2 (Be9 s n).1 (Be9 s n).2 W) from De3 (s:=s) (hs:=zs) (n:=(n:Int)) (w:=W))
 generalize Be9 s n=D at *
 obtain⟨zl,c⟩:=D
 simp only at HP Af⊢
 have HO:=Hd (fun v w h=>Bo3 v zl w h (by have:=Af.out;omega))
 by_cases hc:c=0
 ·subst hc
  rw[if_pos rfl]
  go_enter Tryz.func191,Tryz.ntmps191
  go_wp2_with fail
  (with_reducible refine HP.out.mono ?_);rintro e w1 ⟨v,rfl,Ab,Ad⟩
  go_wp2_with fail
  (with_reducible refine(HO.out v w1 Ab.read).mono ?_);rintro e w2 ⟨v2,rfl,Aa,Ac⟩
  have Ae:=Aa.read
  have hB:=Aa0 Ad Ac
  clear Ab Aa
  go_wp2
  go_ret2
  exact PlP.mk rfl Ae (.inl ⟨rfl,rfl⟩) hB
 ·have hd:((c:Int)==0)=false:=Ab3 (by omega)
  rw[if_neg hc]
  clear hc
  go_enter Tryz.func191,Tryz.ntmps191
  go_wp2_with fail
  (with_reducible refine HP.out.mono ?_);rintro e w1 ⟨v,rfl,Ab,Ad⟩
  go_wp2_with fail
  (with_reducible refine(HO.out v w1 Ab.read).mono ?_);rintro e w2 ⟨v2,rfl,Aa,Ac⟩
  have Ae:=Aa.read
  have hB:=Aa0 Ad Ac
  clear Ab Aa
  go_wp2
  go_ret2
  exact PlP.mk rfl Ae (.inr ⟨rfl,rfl⟩) hB
theorem Ek1:Calls Tryz.prog 191 #[.int .i64 typ,.int .i64 3,.string s,.int .i64 (n:Int)] W (PlP (Bl8 typ 3 s n) W):=by
 rw[Es2]
 have Af:=Hd (Fe8 (s:=s) hn)
 have HP:=Hd (show Calls Tryz.prog _ #[.string s,.int .i64 (n:Int)] W (RetVE Value.string 9 (decD s n).1 (decD s n).2 W) from Cj7 (s:=s) (hs:=zs) (n:=(n:Int)) (w:=W))
 generalize decD s n=D at *
 obtain⟨zl,c⟩:=D
 simp only at HP Af⊢
 have HO:=Hd (fun v w h=>Db2 v zl w h (by have:=Af.out;omega))
 by_cases hc:c=0
 ·subst hc
  rw[if_pos rfl]
  go_enter Tryz.func191,Tryz.ntmps191
  go_wp2_with fail
  (with_reducible refine HP.out.mono ?_);rintro e w1 ⟨v,rfl,Ab,Ad⟩
  go_wp2_with fail
  (with_reducible refine(HO.out v w1 Ab.read).mono ?_);rintro e w2 ⟨v2,rfl,Aa,Ac⟩
  have Ae:=Aa.read
  have hB:=Aa0 Ad Ac
  clear Ab Aa
  go_wp2
  go_ret2
  exact PlP.mk rfl Ae (.inl ⟨rfl,rfl⟩) hB
 ·have hd:((c:Int)==0)=false:=Ab3 (by omega)
  rw[if_neg hc]
  clear hc
  go_enter Tryz.func191,Tryz.ntmps191
  go_wp2_with fail
  (with_reducible refine HP.out.mono ?_);rintro e w1 ⟨v,rfl,Ab,Ad⟩
  go_wp2_with fail
  (with_reducible refine(HO.out v w1 Ab.read).mono ?_);rintro e w2 ⟨v2,rfl,Aa,Ac⟩
  have Ae:=Aa.read
  have hB:=Aa0 Ad Ac
  clear Ab Aa
  go_wp2
  go_ret2
  exact PlP.mk rfl Ae (.inr ⟨rfl,rfl⟩) hB
theorem Ek0:Calls Tryz.prog 191 #[.int .i64 typ,.int .i64 4,.string s,.int .i64 (n:Int)] W (PlP (Bl8 typ 4 s n) W):=by
 rw[Es1]
 have Af:=Hd (Fe6 (s:=s) hn)
 have HP:=Hd (show Calls Tryz.prog _ #[.string s,.int .i64 (n:Int)] W (RetVE (Value.int .i64) 2 (Go.DL.decX s n).1 (Go.DL.decX s n).2 W) from Ck0 (s:=s) (hs:=zs) (n:=(n:Int)) (w:=W))
 generalize Go.DL.decX s n=D at *
 obtain⟨zl,c⟩:=D
 simp only at HP Af⊢
 have HO:=Hd (fun v w h=>Bo3 v zl w h (by have:=Af.out;omega))
 by_cases hc:c=0
 ·subst hc
  rw[if_pos rfl]
  go_enter Tryz.func191,Tryz.ntmps191
  go_wp2_with fail
  (with_reducible refine HP.out.mono ?_);rintro e w1 ⟨v,rfl,Ab,Ad⟩
  go_wp2_with fail
  (with_reducible refine(HO.out v w1 Ab.read).mono ?_);rintro e w2 ⟨v2,rfl,Aa,Ac⟩
  have Ae:=Aa.read
  have hB:=Aa0 Ad Ac
  clear Ab Aa
  go_wp2
  go_ret2
  exact PlP.mk rfl Ae (.inl ⟨rfl,rfl⟩) hB
 ·have hd:((c:Int)==0)=false:=Ab3 (by omega)
  rw[if_neg hc]
  clear hc
  go_enter Tryz.func191,Tryz.ntmps191
  go_wp2_with fail
  (with_reducible refine HP.out.mono ?_);rintro e w1 ⟨v,rfl,Ab,Ad⟩
  go_wp2_with fail
  (with_reducible refine(HO.out v w1 Ab.read).mono ?_);rintro e w2 ⟨v2,rfl,Aa,Ac⟩
  have Ae:=Aa.read
  have hB:=Aa0 Ad Ac
  clear Ab Aa
  go_wp2
  go_ret2
  exact PlP.mk rfl Ae (.inr ⟨rfl,rfl⟩) hB
theorem Dc9(codec:Nat)(h1:1<=codec)(h4:codec<=4):Calls Tryz.prog 191 #[.int .i64 typ,.int .i64 (codec:Int),.string s,.int .i64 (n:Int)] W (PlP (Bl8 typ codec s n) W):=by
 have h:codec=1\/codec=2\/codec=3\/codec=4:=by omega
 rcases h with rfl | rfl | rfl | rfl
 ·exact Ek3 typ s n W zs hn
 ·exact Ek2 typ s n W zs hn
 ·exact Ek1 typ s n W zs hn
 ·exact Ek0 typ s n W zs hn
end
section
variable (s:ByteArray) (p:Int) (W:World) (zs:s.size<=140737488351232)
include zs
theorem Ct0{n e:Nat}{q:Int}(h1:Aa2 s p=(n,q,e))(he:e≠0\/4096<n)(hD:As0 s p=none):Calls Tryz.prog 190 #[.string s,.int .i64 p] W (NuP (As0 s p) W):=by
 have HG:=fun w=>Hd (Al0 s p w (by unfold maxLen;omega) h1)
 have HD:=Hd hD
 generalize As0 s p=D at *
 clear hD h1
 by_cases he0:e=0
 ·subst he0
  have hd:decide ((4096:Int)<(n:Int))=true:=Q4 (by omega)
  have Aa:decide (4096<n)=true:=Q4 (by omega)
  clear he
  go_enter Tryz.func190,Tryz.ntmps190
  go_wp2_with fail
  (with_reducible refine(HG _).out.mono ?_);rintro e w1 ⟨rfl,rfl⟩
  go_wp2
  refine bodyPost_ret (v:=.tuple #[.slice none 0 0,.int .i64 0,.bool false]) (by simp[results,Tryz.results190,go_sem]) rfl ?_
  exact NuP.no rfl HD.out (Q2 _ _)
 ·have hd:((e:Int)!=0)=true:=Ab5 (by omega)
  clear he he0
  go_enter Tryz.func190,Tryz.ntmps190
  go_wp2_with fail
  (with_reducible refine(HG _).out.mono ?_);rintro e w1 ⟨rfl,rfl⟩
  go_wp2
  refine bodyPost_ret (v:=.tuple #[.slice none 0 0,.int .i64 0,.bool false]) (by simp[results,Tryz.results190,go_sem]) rfl ?_
  exact NuP.no rfl HD.out (Q2 _ _)
theorem Du8{n k e:Nat}{q q2:Int}(h1:Aa2 s p=(n,q,0))(hn:n<=4096)(h2:Aa2 s q=(k,q2,e))(he:e≠0):Calls Tryz.prog 190 #[.string s,.int .i64 p] W (NuP (As0 s p) W):=by
 have HG:=fun w=>Hd (Ae7 s p w (by unfold maxLen;omega) h1)
 have Aa:=fun w=>Hd (Al0 s q w (by unfold maxLen;omega) h2)
 have HD:=Hd (Dq0 h1 hn h2 he)
 generalize As0 s p=D at *
 have hd:decide ((4096:Int)<(n:Int))=false:=Q3 (by omega)
 have Ac:decide (4096<n)=false:=Q3 (by omega)
 have Ab:((e:Int)!=0)=true:=Ab5 (by omega)
 clear h1 h2 he
 go_enter Tryz.func190,Tryz.ntmps190
 go_wp2_with fail
 (with_reducible refine(HG _).out.mono ?_);rintro e w1 ⟨rfl,rfl⟩
 go_wp2_with fail
 (with_reducible refine(Aa _).out.mono ?_);rintro e w1 ⟨rfl,rfl⟩
 go_wp2
 refine bodyPost_ret (v:=.tuple #[.slice none 0 0,.int .i64 0,.bool false]) (by simp[results,Tryz.results190,go_sem]) rfl ?_
 exact NuP.no rfl HD.out (Q2 _ _)
theorem Ci8{n r:Nat}{q:Int}(h1:Aa2 s p=(n,q,0))(hn:n<=4096)(h2:Aa2 s q=(0,(r:Int),0)):Calls Tryz.prog 190 #[.string s,.int .i64 p] W (NuP (As0 s p) W):=by
 have HG:=fun w=>Hd (Ae7 s p w (by unfold maxLen;omega) h1)
 have Ac:=fun w=>Hd (Ae7 s q w (by unfold maxLen;omega) h2)
 have HD:=Hd (Ca4 h1 hn h2)
 generalize As0 s p=D at *
 have hd:decide ((4096:Int)<(n:Int))=false:=Q3 (by omega)
 have Af:decide (4096<n)=false:=Q3 (by omega)
 have Ae:=Cz1 (P:=Tryz.prog) Tryz.underlying159 Tryz.infBool n hn W
 have Aa:=RowV.made Value.bool false 4 W W.heap.size n (Q1 _) (by unfold maxLen;omega)
 have Ab:Below W.heap.size W (W.alloc (.cells (madeCells #[.bool false] n) 4)):=(Q2 _ _).alloc (Q1 _) _
 generalize (W.alloc (.cells (madeCells #[.bool false] n) 4))=W1 at Ae Aa Ab
 have Ad:=Hd (Aa.own_at (n:=n) List.length_replicate rfl).read
 clear h1 h2 Aa
 go_enter Tryz.func190,Tryz.ntmps190
 go_wp2_with fail
 (with_reducible refine(HG _).out.mono ?_);rintro e w1 ⟨rfl,rfl⟩
 go_wp2_with fail
 (with_reducible refine(Ac _).out.mono ?_);rintro e w1 ⟨rfl,rfl⟩
 go_wp2
 refine bodyPost_ret (v:=.tuple #[.slice (some ⟨W.heap.size,0,none⟩) n n,.int .i64 (r:Int),.bool true]) (by simp[results,Tryz.results190,go_sem]) rfl ?_
 exact NuP.yes rfl Ad.out HD.out Ab
section
variable {n k r m:Nat} {q:Int} (h1:Aa2 s p=(n,q,0)) (hn:n<=4096) (h2:Aa2 s q=(k,(r:Int),0)) (hk:k≠0) (hm:(n+7)/8=m) (hr:r<=s.size)
include h1 hn h2 hk hm hr
theorem Cb7(hs:s.size<r+m):Calls Tryz.prog 190 #[.string s,.int .i64 p] W (NuP (As0 s p) W):=by
 have HG:=fun w=>Hd (Ae7 s p w (by unfold maxLen;omega) h1)
 have Aa:=fun w=>Hd (Ae7 s q w (by unfold maxLen;omega) h2)
 have HD:=Hd (Bo4 h1 hn h2 hk hm hs)
 generalize As0 s p=D at *
 have hd:decide ((4096:Int)<(n:Int))=false:=Q3 (by omega)
 have Ai:decide (4096<n)=false:=Q3 (by omega)
 have Ae:((k:Int)==0)=false:=Ab3 (by omega)
 have Ac:wrap64 (n:Int)=(n:Int):=by unfold wrap64;omega
 have Ab:((n:Int)+8-1)/8=(m:Int):=by omega
 have Ad:((n:Int)+8-1).tdiv 8=(m:Int):=by rw[Int.tdiv_eq_ediv_of_nonneg (by omega)];exact Ab
 have Ag:wrap64 ((r:Int)+(m:Int))=(r:Int)+(m:Int):=by unfold wrap64;omega
 have Af:decide ((s.size:Int)<(r:Int)+(m:Int))=true:=Q4 (by omega)
 have Ah:m<=512:=by omega
 clear h1 h2 hm hk
 go_enter Tryz.func190,Tryz.ntmps190
 go_wp2_with fail
 (with_reducible refine(HG _).out.mono ?_);rintro e w1 ⟨rfl,rfl⟩
 go_wp2_with fail
 (with_reducible refine(Aa _).out.mono ?_);rintro e w1 ⟨rfl,rfl⟩
 go_wp2
 refine bodyPost_ret (v:=.tuple #[.slice none 0 0,.int .i64 0,.bool false]) (by simp[results,Tryz.results190,go_sem]) rfl ?_
 exact NuP.no rfl HD.out (Q2 _ _)
theorem Dd2(hs:r+m<=s.size):Calls Tryz.prog 190 #[.string s,.int .i64 p] W (NuP (As0 s p) W):=by
 have HG:=fun w=>Hd (Ae7 s p w (by unfold maxLen;omega) h1)
 have Ae:=fun w=>Hd (Ae7 s q w (by unfold maxLen;omega) h2)
 obtain⟨B,hB⟩:∃B,s.extract r (r+m)=B:=⟨_,rfl⟩
 have Af:B.size=m:=by rw[←hB];exact Bn0 hs
 have Aw:m<=512:=by omega
 have HU:=fun w=>Hd (Ch1 B (n:Int) w (by omega))
 have HC:=fun w=>Hd (Db4 B w (by omega))
 rw[Af] at HC
 have Ab:=Hd (Bt6 h1 hn h2 hk hm hs hB)
 have Ad:=Hd (Dp9 h1 hn h2 hk hm hs hB)
 have Ah:=Bi5 (num B) (8*m)
 generalize As0 s p=D at *
 generalize ones (num B) (8*m)=O at *
 generalize upk B n=U at *
 obtain⟨ub,uc⟩:=U
 simp only at HU Ab Ad
 obtain⟨hd,Ao,Aq,Ap,Au,Az,An,Ak,Ax,Ar,Al,As,Aj⟩:=Ej5 (O:=O) hn hm hs zs Ah
 have Ay:((k:Int)==0)=false:=Ab3 (fun e=>hk (Int.ofNat_eq_zero.1 e))
 clear h1 h2 hm hk Af
 by_cases huc:uc=0
 ·subst huc
  by_cases hO:O=k
  ·have HD:=Hd (Ad.out rfl hO)
   have Ag:((O:Int)!=(k:Int))=false:=by rw[hO];simp
   clear hO Ad Ab
   go_enter Tryz.func190,Tryz.ntmps190
   go_wp2_with fail
   (with_reducible refine(HG _).out.mono ?_);rintro e w1 ⟨rfl,rfl⟩
   go_wp2_with fail
   (with_reducible refine(Ae _).out.mono ?_);rintro e w1 ⟨rfl,rfl⟩
   go_wp2_with fail
   (with_reducible refine(HU _).out.mono ?_);rintro e w2 ⟨v,rfl,Aa,Ac⟩
   have Ai:=Hd Aa.read
   clear Aa
   go_wp2_with fail
   (with_reducible refine(HC _).out.mono ?_);rintro e w3 ⟨rfl,rfl⟩
   go_wp2
   refine bodyPost_ret (v:=.tuple #[v,.int .i64 ((r+m:Nat):Int),.bool true]) (by simp[results,Tryz.results190,go_sem]) rfl ?_
   exact NuP.yes rfl Ai.out HD.out Ac
  ·have HD:=Hd (Ab.out (.inr hO))
   have Ag:((O:Int)!=(k:Int))=true:=Ab5 (by omega)
   clear hO Ad Ab
   go_enter Tryz.func190,Tryz.ntmps190
   go_wp2_with fail
   (with_reducible refine(HG _).out.mono ?_);rintro e w1 ⟨rfl,rfl⟩
   go_wp2_with fail
   (with_reducible refine(Ae _).out.mono ?_);rintro e w1 ⟨rfl,rfl⟩
   go_wp2_with fail
   (with_reducible refine(HU _).out.mono ?_);rintro e w2 ⟨v,rfl,Aa,Ac⟩
   clear Aa
   go_wp2_with fail
   (with_reducible refine(HC _).out.mono ?_);rintro e w3 ⟨rfl,rfl⟩
   go_wp2
   refine bodyPost_ret (v:=.tuple #[.slice none 0 0,.int .i64 0,.bool false]) (by simp[results,Tryz.results190,go_sem]) rfl ?_
   exact NuP.no rfl HD.out Ac
 ·have HD:=Hd (Ab.out (.inl huc))
  have Ag:((uc:Int)!=0)=true:=Ab5 (by omega)
  clear huc Ad Ab
  go_enter Tryz.func190,Tryz.ntmps190
  go_wp2_with fail
  (with_reducible refine(HG _).out.mono ?_);rintro e w1 ⟨rfl,rfl⟩
  go_wp2_with fail
  (with_reducible refine(Ae _).out.mono ?_);rintro e w1 ⟨rfl,rfl⟩
  go_wp2_with fail
  (with_reducible refine(HU _).out.mono ?_);rintro e w2 ⟨v,rfl,Aa,Ac⟩
  clear Aa
  go_wp2
  refine bodyPost_ret (v:=.tuple #[.slice none 0 0,.int .i64 0,.bool false]) (by simp[results,Tryz.results190,go_sem]) rfl ?_
  exact NuP.no rfl HD.out Ac
end
theorem Bp1:Calls Tryz.prog 190 #[.string s,.int .i64 p] W (NuP (As0 s p) W):=by
 obtain⟨n,q,e,h1⟩:∃n q e,Aa2 s p=(n,q,e):=⟨_,_,_,rfl⟩
 by_cases he:e=0
 ·subst he
  by_cases hn:n<=4096
  ·obtain⟨k,q2,e2,h2⟩:∃k q2 e2,Aa2 s q=(k,q2,e2):=⟨_,_,_,rfl⟩
   by_cases he2:e2=0
   ·subst he2
    obtain⟨x,y,-,rfl,-,Ab,-,-⟩:=getR_zero h2
    have Aa:Aa2 s q=(k,((x+y:Nat):Int),0):=by rw[h2];push_cast;rfl
    by_cases hk:k=0
    ·subst hk
     exact Ci8 s p W zs h1 hn Aa
    ·by_cases hs:s.size<x+y+(n+7)/8
     ·exact Cb7 s p W zs h1 hn Aa hk rfl Ab hs
     ·exact Dd2 s p W zs h1 hn Aa hk rfl Ab (by omega)
   ·exact Du8 s p W zs h1 hn h2 he2
  ·exact Ct0 s p W zs h1 (.inr (by omega)) (Cr4 h1 (by omega))
 ·exact Ct0 s p W zs h1 (.inl he) (Et0 h1 he)
end
end Go.P
namespace Go.CK
open RowKit VB VarM BP VS NU VL
theorem Ei0{s:ByteArray}{p:Int}{b:List Bool}{q:Nat}(h:As0 s p=some (b,q)):b.length<=4096/\q<=s.size:=by
 obtain⟨n,q1,e,h1⟩:∃n q e,Aa2 s p=(n,q,e):=⟨_,_,_,rfl⟩
 by_cases he:e=0
 ·subst he
  by_cases hn:n<=4096
  ·obtain⟨k,q2,e2,h2⟩:∃k q2 e2,Aa2 s q1=(k,q2,e2):=⟨_,_,_,rfl⟩
   by_cases he2:e2=0
   ·subst he2
    obtain⟨x,y,-,rfl,-,Ab,-,-⟩:=Go.RL.getR_zero h2
    have Aa:Aa2 s q1=(k,((x+y:Nat):Int),0):=by rw[h2];push_cast;rfl
    by_cases hk:k=0
    ·subst hk
     rw[Ca4 h1 hn Aa] at h
     simp only[Option.some.injEq,Prod.mk.injEq] at h
     obtain⟨rfl,rfl⟩:=h
     exact⟨by rw[List.length_replicate];exact hn,Ab⟩
    ·by_cases hs:s.size<x+y+(n+7)/8
     ·rw[Bo4 h1 hn Aa hk rfl hs] at h;cases h
     ·by_cases hb:(upk (s.extract (x+y) (x+y+(n+7)/8)) n).2=0
      ·by_cases hc:ones (num (s.extract (x+y) (x+y+(n+7)/8))) (8*((n+7)/8))=k
       ·rw[Dp9 h1 hn Aa hk rfl (by omega) rfl hb hc] at h
        simp only[Option.some.injEq,Prod.mk.injEq] at h
        obtain⟨rfl,rfl⟩:=h
        exact⟨by rw[(Cn3 hn hb).1];exact hn,by omega⟩
       ·rw[Bt6 h1 hn Aa hk rfl (by omega) rfl (.inr hc)] at h;cases h
      ·rw[Bt6 h1 hn Aa hk rfl (by omega) rfl (.inl hb)] at h;cases h
   ·rw[Dq0 h1 hn h2 he2] at h;cases h
  ·rw[Cr4 h1 (by omega)] at h;cases h
 ·rw[Et0 h1 he] at h;cases h
def finV(typ:Int)(nu:Bool):Option (List Vl)->List Vl×Nat
 | some l=>if Ak1 typ nu l=0 then(l,0) else([],2)
 | none=>([],2)
theorem En2{typ:Int}{nu:Bool}{s:ByteArray}(hT:okT typ=true)(hs:Ac0 s=0):At7 typ nu s=finV typ nu (Bx3 typ (s.extract 0 (s.size-4))):=by
 rw[En1 hT hs]
 cases Bx3 typ (s.extract 0 (s.size-4))<;>rfl
theorem Ff7{E:Nat}(h:E≠0):((E:Int)!=0)=true:=Ab5 (by omega)
theorem Di2{typ:Int}{x:Nat}(h:uses typ x=true):1<=x/\x<=4:=by
 rcases Ai7 h with⟨_,h⟩ | ⟨_,h⟩<;>omega
theorem Ed7{typ:Int}{s:ByteArray}(h:uses typ (bN s 0:Nat)=false):Bx3 typ s=none:=by unfold Bx3;rw[if_pos h]
theorem Ed9{typ:Int}{s:ByteArray}(h:uses typ (bN s 0:Nat)=true)(hn:As0 s 1=none):Bx3 typ s=none:=by unfold Bx3;rw[if_neg (by simp[h]),hn];rfl
theorem Ed8{typ:Int}{s:ByteArray}{b:List Bool}{q:Nat}(h:uses typ (bN s 0:Nat)=true)(hn:As0 s 1=some (b,q)):Bx3 typ s=(Bl8 typ (bN s 0:Nat) (s.extract q s.size) (b.count false)).map fun l=>Ai5 b l:=by unfold Bx3;rw[if_neg (by simp[h]),hn];rfl
end Go.CK
namespace Go.P
open RowKit VB VarM BP RL VS VL DI CK NU
section
variable (typ:Int) (s:ByteArray) (W:World) (hT:okT typ=true) (zs:s.size<=140737488351232) (h1:1<=s.size)
include hT zs h1
theorem Dc6(hu:uses typ (bN s 0:Nat)=false):Calls Tryz.prog 151 #[.int .i64 typ,.string s] W (PlO 49 (Bx3 typ s) W):=by
 rw[Ed7 hu]
 have HC:=fun w=>Hd (At1 typ w)
 have HI:=fun v w h=>Hd (Aq9 v (cds typ) (bN s 0) w h)
 rw[Bw4 hT,hu] at HI
 have Ae:=Ai1 s
 have Ad:=Ah2 s 0
 have Af:(0:Int)<(s.size:Int):=by omega
 have Aa:0<s.size:=h1
 generalize cds typ=cl at *
 obtain⟨x,hx⟩:∃x,bN s 0=x:=⟨_,rfl⟩
 rw[hx] at HI Ad
 have hw:wrap64 (x:Int)=(x:Int):=by unfold wrap64;omega
 clear hT hu
 go_enter Tryz.func151,Tryz.ntmps151
 go_wp2_with fail
 (with_reducible refine(HC _).out.mono ?_);rintro e w1 ⟨v,rfl,hr,Ac⟩
 go_wp2_with fail
 (with_reducible refine(HI v _ hr).out.mono ?_);rintro e w2 ⟨rfl,Ab⟩
 go_wp2
 go_ret2
 exact PlO.mk rfl (OwnL.nil _ _ _) (.inr ⟨rfl,rfl⟩) (Aa0 Ac Ab)
theorem Dc7(hu:uses typ (bN s 0:Nat)=true)(hn:As0 s 1=none):Calls Tryz.prog 151 #[.int .i64 typ,.string s] W (PlO 49 (Bx3 typ s) W):=by
 rw[Ed9 hu hn]
 have HC:=fun w=>Hd (At1 typ w)
 have HI:=fun v w h=>Hd (Aq9 v (cds typ) (bN s 0) w h)
 rw[Bw4 hT,hu] at HI
 have HN:=fun w=>Hd (Bp1 s 1 w zs)
 rw[hn] at HN
 have Ag:=Ai1 s
 have Af:=Ah2 s 0
 have Ah:(0:Int)<(s.size:Int):=by omega
 have Aa:0<s.size:=h1
 generalize cds typ=cl at *
 obtain⟨x,hx⟩:∃x,bN s 0=x:=⟨_,rfl⟩
 rw[hx] at HI Af
 have hw:wrap64 (x:Int)=(x:Int):=by unfold wrap64;omega
 clear hT hu hn
 go_enter Tryz.func151,Tryz.ntmps151
 go_wp2_with fail
 (with_reducible refine(HC _).out.mono ?_);rintro e w1 ⟨v,rfl,hr,Ad⟩
 go_wp2_with fail
 (with_reducible refine(HI v _ hr).out.mono ?_);rintro e w2 ⟨rfl,Ac⟩
 go_wp2_with fail
 (with_reducible refine(HN _).out.mono ?_);rintro e w3 ⟨vn,b,q,ok,rfl,Ab,hd,Ae⟩
 rcases hd with⟨rfl,k,rfl,hd⟩ | ⟨rfl,-⟩
 ·cases hd
 ·clear Ab
  have hB:=Aa0 (Aa0 Ad Ac) Ae
  go_wp2
  go_ret2
  exact PlO.mk rfl (OwnL.nil _ _ _) (.inr ⟨rfl,rfl⟩) hB
theorem Du3{b:List Bool}{q:Nat}(hu:uses typ (bN s 0:Nat)=true)(hn:As0 s 1=some (b,q)):Calls Tryz.prog 151 #[.int .i64 typ,.string s] W (PlO 49 (Bx3 typ s) W):=by
 rw[Ed8 hu hn]
 obtain⟨An,Bh⟩:=Ei0 hn
 have HC:=fun w=>Hd (At1 typ w)
 have HI:=fun v w h=>Hd (Aq9 v (cds typ) (bN s 0) w h)
 rw[Bw4 hT,hu] at HI
 have HN:=fun w=>Hd (Bp1 s 1 w zs)
 rw[hn] at HN
 have Bd:=List.count_le_length (a:=false) (l:=b)
 obtain⟨U,hU⟩:∃U,s.extract q s.size=U:=⟨_,rfl⟩
 have Bc:U.size<=s.size:=by rw[←hU,ByteArray.size_extract];omega
 have HP:=fun w=>Hd (Dc9 typ U (b.count false) w (by omega) (by omega) (bN s 0) (Di2 hu).1 (Di2 hu).2)
 have Al:=Hd (fun(l:List Vl)(h:Bl8 typ (bN s 0:Nat) U (b.count false)=some l)=>Eh1 (by omega) h)
 rw[hU]
 have Bl:=Ai1 s
 have Bb:=Ah2 s 0
 have Ad:(0:Int)<(s.size:Int):=by omega
 have Be:0<s.size:=h1
 generalize cds typ=cl at *
 obtain⟨x,hx⟩:∃x,bN s 0=x:=⟨_,rfl⟩
 rw[hx] at HI Bb HP Al⊢
 have hw:wrap64 (x:Int)=(x:Int):=by unfold wrap64;omega
 generalize Bl8 typ (x:Int) U (b.count false)=D at *
 have Bk:(q:Int)<=(s.size:Int):=by omega
 have Ba:=Hd (show b.count false<=4096 by omega)
 obtain⟨N,hN⟩:∃N,b.count false=N:=⟨_,rfl⟩
 rw[hN] at HP Al Ba
 have Az:=Hd hN
 clear hT hu hn Bc Bd hN
 go_enter Tryz.func151,Tryz.ntmps151
 go_wp2_with fail
 (with_reducible refine(HC _).out.mono ?_);rintro e w1 ⟨v,rfl,hr,As⟩
 go_wp2_with fail
 (with_reducible refine(HI v _ hr).out.mono ?_);rintro e w2 ⟨rfl,Ap⟩
 go_wp2_with fail
 (with_reducible refine(HN _).out.mono ?_);rintro e w3 ⟨vn,b',q',ok,rfl,Ae,hd,Aw⟩
 rcases hd with⟨rfl,k,rfl,hd⟩ | ⟨rfl,hd⟩
 ·simp only[Option.some.injEq,Prod.mk.injEq] at hd
  obtain⟨Ax,Au⟩:=hd
  rw[←Ax] at Ae
  rw[←Au]
  clear Ax Au
  have hB:=Aa0 (Aa0 As Ap) Aw
  clear hr As Ap Aw HC HI HN
  obtain⟨A,c,_,rfl,rfl,Bm,Bi⟩:=Ae.bds
  have Ay:=Hd Ae
  have Af:=Hd hB
  clear Ae hB
  go_wp2_with fail
  go_loopw[10,32] (fun ct i wr=>∃(j k:Nat),i=.int .i64 j/\ct=.int .i64 k/\j<=b.length/\k=(b.take j).count false/\k<=j/\Below w3.heap.size w3 wr) (fun _ i _=>b.length-(intOf i).toNat)
  case atStart=>exact⟨0,0,rfl,rfl,Nat.zero_le _,rfl,Q1 _,Q2 _ _⟩
  case round=>
   obtain⟨j,k,rfl,rfl,hj,hk,Bj,Aa⟩:=hrel
   have HK:=Hd hk;clear hk
   by_cases Ad:j<b.length
   ·have Ah:b[j]?=some b[j]:=Q7 Ad
    obtain⟨ad,rfl,_,q0⟩:=(Ay.out.below Aa).at Ah
    have Aj:=Hd (As9 Ah);clear Ah
    generalize b[j]=y at q0 Aj
    replace q0:wr.cell? (ad.add j)=some (.bool y):=q0
    cases y
    ·go_wp2_with fail
     go_roundw
     case rel=>exact⟨j+1,k+1,by go_num,by go_num,Ad,by rw[Aj.out,HK.out];rfl,by omega,Aa⟩
     case measure=>simp[intOf]<;>omega
    ·go_wp2_with fail
     go_roundw
     case rel=>exact⟨j+1,k,by go_num,rfl,Ad,by rw[Aj.out,HK.out];rfl,by omega,Aa⟩
     case measure=>simp[intOf]<;>omega
   ·have Aq:=Hd (show k=N by rw[HK.out,List.take_of_length_le (by omega)];exact Az.out)
    obtain rfl:=Aq.out
    clear Aq HK
    have Bg:=Hd (Ay.out.step Aa)
    go_wp2_with fail
    (with_reducible refine(HP _).out.mono ?_);rintro e w5 ⟨vp,l,ok,rfl,Ak,hd,Ai⟩
    have Ao:=Bg.out.step Ai
    have Ab:=Aa0 Aa Ai
    clear Aa Ai HP
    rcases hd with⟨rfl,hd⟩ | ⟨rfl,hd⟩
    ·have hJ:=Hd (Ej0 _ vp b l w5 Ao Ak An (by rw[Al.out l hd];exact Az.out.symm))
     have HD:=Hd hd
     clear hd Ak Ao
     go_wp2_with fail
     (with_reducible refine hJ.out.mono ?_);rintro e w6 ⟨vj,rfl,Ac,Ar⟩
     have Bf:=Ac.lower (Below.size (Aa0 Af.out Ab))
     have Ag:=Aa0 (Af.out) (Aa0 Ab Ar)
     clear Ac Ab Ar
     go_wp2
     go_ret2
     exact PlO.mk rfl Bf (.inl ⟨rfl,by rw[HD.out];rfl⟩) Ag
    ·have HD:=Hd hd
     have Ag:=Aa0 Af.out Ab
     clear hd Ak Ao Ab
     go_wp2
     go_ret2
     exact PlO.mk rfl (OwnL.nil _ _ _) (.inr ⟨rfl,by rw[HD.out];rfl⟩) Ag
 ·cases hd
theorem Dc8:Calls Tryz.prog 151 #[.int .i64 typ,.string s] W (PlO 49 (Bx3 typ s) W):=by
 cases hu:uses typ (bN s 0:Nat) with
 | false=>exact Dc6 typ s W hT zs h1 hu
 | true=>
   cases hn:As0 s 1 with
   | none=>exact Dc7 typ s W hT zs h1 hu hn
   | some x=>exact Du3 typ s W hT zs h1 hu (b:=x.1) (q:=x.2) hn
end
section
variable (nm:ByteArray) (ty sc:Int) (nu:Bool) (s:ByteArray) (W:World) (zs:s.size<=140737488351232)
include zs
omit zs in
theorem decT(hT:okT ty=false):Calls Tryz.prog 107 #[(.agg #[.string nm,.int .i64 ty,.int .i64 sc,.bool nu]),.string s] W (RetVlE 49 (At7 ty nu s).1 (At7 ty nu s).2 W):=by
 rw[Dy2 hT]
 have HT:=fun w=>Hd (Av0 ty w)
 rw[hT] at HT
 have Aa:=Hd ((Q2 W.heap.size W).alloc (Q1 _) (.cells #[.string nm,.int .i64 ty,.int .i64 sc,.bool nu] 62))
 clear hT
 go_enter Tryz.func107,Tryz.ntmps107
 go_wp2_with fail
 (with_reducible refine(HT _).out.mono ?_);rintro e w1 ⟨rfl,Ab⟩
 go_wp2
 go_ret2
 exact RetVlE.mk rfl (OwnL.nil _ _ _) (Aa0 Aa.out Ab)
theorem decS(hT:okT ty=true)(hs:Ac0 s≠0):Calls Tryz.prog 107 #[(.agg #[.string nm,.int .i64 ty,.int .i64 sc,.bool nu]),.string s] W (RetVlE 49 (At7 ty nu s).1 (At7 ty nu s).2 W):=by
 rw[decC_bad hT hs]
 have HT:=fun w=>Hd (Av0 ty w)
 rw[hT] at HT
 have HC:=fun w=>Hd (Bk5 s w zs)
 rw[if_neg hs] at HC
 have Aa:=Hd ((Q2 W.heap.size W).alloc (Q1 _) (.cells #[.string nm,.int .i64 ty,.int .i64 sc,.bool nu] 62))
 generalize Ac0 s=E at *
 have hd:((E:Int)!=0)=true:=Ab5 (by omega)
 clear hT hs
 go_enter Tryz.func107,Tryz.ntmps107
 go_wp2_with fail
 (with_reducible refine(HT _).out.mono ?_);rintro e w1 ⟨rfl,Ac⟩
 go_wp2_with fail
 (with_reducible refine(HC _).out.mono ?_);rintro e w2 ⟨rfl,Ab⟩
 go_wp2
 go_ret2
 exact RetVlE.mk rfl (OwnL.nil _ _ _) (Aa0 (Aa0 Aa.out Ac) Ab)
theorem decG(hT:okT ty=true)(hs:Ac0 s=0):Calls Tryz.prog 107 #[(.agg #[.string nm,.int .i64 ty,.int .i64 sc,.bool nu]),.string s] W (RetVlE 49 (At7 ty nu s).1 (At7 ty nu s).2 W):=by
 rw[En2 hT hs]
 have h5:5<=s.size:=Nat.le_of_not_lt fun h=>by rw[Bc0 h] at hs;cases hs
 have HT:=fun w=>Hd (Av0 ty w)
 rw[hT] at HT
 have HC:=fun w=>Hd (Bk5 s w zs)
 rw[if_pos hs,hs] at HC
 obtain⟨T,Ag⟩:∃T,s.extract 0 (s.size-4)=T:=⟨_,rfl⟩
 rw[Ag] at HC⊢
 have Aq:T.size=s.size-4:=by rw[←Ag,ByteArray.size_extract];omega
 have HV:=fun w=>Hd (Dc8 ty T w hT (by omega) (by omega))
 have Al:=fun v l w h=>Hd (Cd6 nm ty sc nu v l w h)
 have Ae:=Hd ((Q2 W.heap.size W).alloc (Q1 _) (.cells #[.string nm,.int .i64 ty,.int .i64 sc,.bool nu] 62))
 have An:=Hd (show(W.alloc (.cells #[.string nm,.int .i64 ty,.int .i64 sc,.bool nu] 62)).heap.size=W.heap.size+1 from by simp)
 have Ak:=Hd (Var4.new W (.string nm) (.int .i64 ty) (.int .i64 sc) (.bool nu) 62)
 generalize Bx3 ty T=D at *
 obtain⟨R,hR⟩:∃R:List Vl×Nat,finV ty nu D=R:=⟨_,rfl⟩
 rw[hR]
 have HR:=Hd hR
 clear hT hs Ag Aq h5 hR
 go_enter Tryz.func107,Tryz.ntmps107
 go_wp2_with fail
 (with_reducible refine(HT _).out.mono ?_);rintro e w1 ⟨rfl,Ai⟩
 go_wp2_with fail
 (with_reducible refine(HC _).out.mono ?_);rintro e w2 ⟨rfl,Ah⟩
 have Aa:=Aa0 Ai Ah
 obtain⟨v0,v1,v2,v3⟩:=Ak.out.below Aa (by rw[An.out];exact Nat.lt_succ_self _)
 clear HT HC Ai Ah
 go_wp2_with fail
 (with_reducible refine(HV _).out.mono ?_);rintro e w3 ⟨v,l,ok,rfl,hr,hd,Aj⟩
 have Ab:=Aa0 Aa Aj
 have Af:=Hd (Below.size (Aa0 Ae.out Aa))
 clear Aa Aj v0 v1 v2 v3 HV
 rcases hd with⟨rfl,hd⟩ | ⟨rfl,hd⟩
 ·obtain⟨v0,v1,v2,v3⟩:=Ak.out.below Ab (by rw[An.out];exact Nat.lt_succ_self _)
  have HE:=Hd (Al v l w3 hr.read).out
  have HD:=Hd hd
  have Ap:=Hd hr
  clear hd hr Al
  by_cases h0:Ak1 ty nu l=0
  ·rw[h0] at HE
   have Ac:=Hd (show R=(l,0) by rw[←HR.out,HD.out];exact if_pos h0)
   clear h0 HR HD
   go_wp2_with fail
   (with_reducible refine HE.out.mono ?_);rintro e w4 ⟨rfl,Ad⟩
   have hB:=Aa0 (Aa0 Ae.out Ab) Ad
   have Ao:=(Ap.out.below Ad).lower Af.out
   go_wp2
   go_ret2
   rw[Ac.out]
   exact RetVlE.mk rfl Ao hB
  ·have Ac:=Hd (show R=([],2) by rw[←HR.out,HD.out];exact if_neg h0)
   have hd:=Ff7 h0
   generalize Ak1 ty nu l=E at *
   clear h0 HR HD
   go_wp2_with fail
   (with_reducible refine HE.out.mono ?_);rintro e w4 ⟨rfl,Ad⟩
   have hB:=Aa0 (Aa0 Ae.out Ab) Ad
   go_wp2
   go_ret2
   rw[Ac.out]
   exact RetVlE.mk rfl (OwnL.nil _ _ _) hB
 ·have Ac:=Hd (show R=([],2) by rw[←HR.out,hd];rfl)
  clear hd hr HR
  have hB:=Aa0 Ae.out Ab
  go_wp2
  go_ret2
  rw[Ac.out]
  exact RetVlE.mk rfl (OwnL.nil _ _ _) hB
theorem Ck4:Calls Tryz.prog 107 #[(.agg #[.string nm,.int .i64 ty,.int .i64 sc,.bool nu]),.string s] W (RetVlE 49 (At7 ty nu s).1 (At7 ty nu s).2 W):=by
 cases hT:okT ty with
 | false=>exact decT nm ty sc nu s W hT
 | true=>
   by_cases hs:Ac0 s=0
   ·exact decG nm ty sc nu s W zs hT hs
   ·exact decS nm ty sc nu s W zs hT hs
end
end Go.P
