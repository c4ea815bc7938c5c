/- The walks over package chunk: codecsOf, isType, slices.Contains, checkAll. -/
import Derived.Test.YtnmlajmaffiigaaGreatDoorDlt
import Derived.Test.YtnmlajmaffiigaaGreatDoorGd
import Derived.Test.YtnmlajmaffiigaaGreatDoorGe
import Derived.Test.YtnmlajmaffiigaaGreatDoorGw
import Derived.Test.YtnmlajmaffiigaaGreatDoorGr
import Derived.Deep.RegionWith
set_option linter.constructorNameAsVariable false
set_option maxRecDepth 100000
set_option maxHeartbeats 2000000
open Go Go.Proofs Go.Proofs.YtnmlajmaffiigaaGreatDoor Go.P
namespace Go.CK
open RowKit VB VarM BP RL VS VL DI
def cds(typ:Int):List Nat:=if typ=3 then[1,3] else if okT typ then[1,2,4] else[]
theorem cds_3:cds 3=[1,3]:=rfl
theorem cds_n{typ:Int}(h:typ=1\/typ=2\/typ=4\/typ=5):cds typ=[1,2,4]:=by rcases h with rfl | rfl | rfl | rfl<;>rfl
theorem cds_o{typ:Int}(h:okT typ=false):cds typ=[]:=by
 unfold cds
 rw[if_neg (by rintro rfl;cases h),h];rfl
theorem okT_o{typ:Int}(h1:¬typ=1)(h2:¬typ=2)(h3:¬typ=3)(h4:¬typ=4)(h5:¬typ=5):okT typ=false:=Q3 (by omega)
theorem okT_five{typ:Int}(h:okT typ=true):typ=1\/typ=2\/typ=3\/typ=4\/typ=5:=by
 have:=of_decide_eq_true h
 omega
theorem Ff9(typ:Int):decide ((0:Int)<((cds typ).length:Int))=okT typ:=by
 cases h:okT typ with
 | false=>rw[cds_o h];rfl
 | true=>rcases okT_five h with rfl | rfl | rfl | rfl | rfl<;>rfl
theorem Bw4{typ:Int}(h:okT typ=true)(x:Nat):(cds typ).any (fun n=>n==x)=uses typ x:=by
 unfold uses
 by_cases h3:typ=3
 ·subst h3
  rw[cds_3,if_pos rfl]
  simp only[List.any_cons,List.any_nil,Bool.or_false]
  by_cases a:x=1
  ·subst a;rfl
  ·by_cases b:x=3
   ·subst b;rfl
   ·rw[beq_eq_false_iff_ne.2 (Ne.symm a),beq_eq_false_iff_ne.2 (Ne.symm b)]
    exact(Q3 (by omega)).symm
 ·rw[cds_n (by rcases okT_five h with h | h | h | h | h<;>omega),if_neg h3]
  simp only[List.any_cons,List.any_nil,Bool.or_false]
  by_cases a:x=1
  ·subst a;rfl
  ·by_cases b:x=2
   ·subst b;rfl
   ·by_cases c:x=4
    ·subst c;rfl
    ·rw[beq_eq_false_iff_ne.2 (Ne.symm a),beq_eq_false_iff_ne.2 (Ne.symm b),beq_eq_false_iff_ne.2 (Ne.symm c)]
     exact(Q3 (by omega)).symm
def RetRd{α:Type}(f:α->Value)(l:List α)(w:World):Ending->World->Prop:=fun en w'=>∃v,en=.returned v/\RdV f w' w'.heap.size v l/\Below w.heap.size w w'
theorem RetRd.mk{α:Type}{f:α->Value}{l:List α}{w w':World}{x v:Value}(hx:x=v)(hr:RdV f w' w'.heap.size v l)(hb:Below w.heap.size w w'):RetRd f l w (.returned x) w':=⟨v,by rw[hx],hr,hb⟩
def IxP(p:Bool)(w:World):Ending->World->Prop:=fun en w'=>∃r:Int,en=.returned (.int .i64 r)/\decide (0<=r)=p/\Below w.heap.size w w'
theorem IxP.mk{p:Bool}{w w':World}{x:Value}{r:Int}(hx:x=.int .i64 r)(hp:decide (0<=r)=p)(hb:Below w.heap.size w w'):IxP p w (.returned x) w':=⟨r,by rw[hx],hp,hb⟩
theorem Fg6{l:List Nat}{x j:Nat}(h:l[j]?=some x):l.any (fun n=>n==x)=true:=by
 rw[List.any_eq_true]
 exact⟨x,List.mem_of_getElem? h,beq_self_eq_true _⟩
theorem Eq2{l:List Nat}{x:Nat}(h:∀m,m<l.length->l[m]?≠some x):l.any (fun n=>n==x)=false:=by
 rw[List.any_eq_false]
 intro y hy e
 obtain⟨m,hm,rfl⟩:=List.mem_iff_getElem.1 hy
 exact h m hm (by rw[Q7 hm];exact congrArg some (eq_of_beq e))
end Go.CK
namespace Go.P
open RowKit VB VarM BP RL VS VL DI CK
theorem At1(typ:Int)(w:World):Calls Tryz.prog 155 #[.int .i64 typ] w (RetRd nI (cds typ) w):=by
 by_cases h3:typ=3
 ·subst h3
  have hr:=RdV.lit nI w [1,3] 2 3 (by decide) (by decide)
  have HR:=Hd (hr.more (B':=(w.alloc (.cells (([1,3]:List Nat).map nI).toArray 3)).heap.size) (by simp))
  clear hr
  go_enter Tryz.func155,Tryz.ntmps155
  go_wp2
  go_ret
  exact RetRd.mk rfl HR.out ((Q2 _ _).alloc (Q1 _) _)
 have e3:=Ab3 h3
 by_cases h1:typ=1
 ·subst h1
  have hr:=RdV.lit nI w [1,2,4] 3 3 (by decide) (by decide)
  have HR:=Hd (hr.more (B':=(w.alloc (.cells (([1,2,4]:List Nat).map nI).toArray 3)).heap.size) (by simp))
  clear hr
  go_enter Tryz.func155,Tryz.ntmps155
  go_wp2
  go_ret
  exact RetRd.mk rfl HR.out ((Q2 _ _).alloc (Q1 _) _)
 have e1:=Ab3 h1
 by_cases h2:typ=2
 ·subst h2
  have hr:=RdV.lit nI w [1,2,4] 3 3 (by decide) (by decide)
  have HR:=Hd (hr.more (B':=(w.alloc (.cells (([1,2,4]:List Nat).map nI).toArray 3)).heap.size) (by simp))
  clear hr
  go_enter Tryz.func155,Tryz.ntmps155
  go_wp2
  go_ret
  exact RetRd.mk rfl HR.out ((Q2 _ _).alloc (Q1 _) _)
 have e2:=Ab3 h2
 by_cases h4:typ=4
 ·subst h4
  have hr:=RdV.lit nI w [1,2,4] 3 3 (by decide) (by decide)
  have HR:=Hd (hr.more (B':=(w.alloc (.cells (([1,2,4]:List Nat).map nI).toArray 3)).heap.size) (by simp))
  clear hr
  go_enter Tryz.func155,Tryz.ntmps155
  go_wp2
  go_ret
  exact RetRd.mk rfl HR.out ((Q2 _ _).alloc (Q1 _) _)
 have e4:=Ab3 h4
 by_cases h5:typ=5
 ·subst h5
  have hr:=RdV.lit nI w [1,2,4] 3 3 (by decide) (by decide)
  have HR:=Hd (hr.more (B':=(w.alloc (.cells (([1,2,4]:List Nat).map nI).toArray 3)).heap.size) (by simp))
  clear hr
  go_enter Tryz.func155,Tryz.ntmps155
  go_wp2
  go_ret
  exact RetRd.mk rfl HR.out ((Q2 _ _).alloc (Q1 _) _)
 have e5:=Ab3 h5
 rw[cds_o (okT_o h1 h2 h3 h4 h5)]
 clear h1 h2 h3 h4 h5
 go_enter Tryz.func155,Tryz.ntmps155
 go_wp2
 go_ret
 exact RetRd.mk rfl (RdV.nil _ _ _) (Q2 _ _)
theorem Av0(typ:Int)(w:World):Calls Tryz.prog 117 #[.int .i64 typ] w (RetB (.bool (okT typ)) w):=by
 have HC:=fun w=>Hd (At1 typ w)
 have hd:decide (0<(cds typ).length)=okT typ:=by rw[←Ff9 typ];exact decide_eq_decide.2 (by omega)
 generalize cds typ=l at *
 generalize okT typ=b at *
 go_enter Tryz.func117,Tryz.ntmps117
 go_wp2_with fail
 refine(HC _).out.mono ?_;rintro e w1 ⟨v,rfl,hr,hb⟩
 obtain⟨A,c,rfl,h1,h2,-⟩:=hr
 clear h1 h2 HC
 go_wp2
 go_ret
 exact RetB.mk rfl hb
theorem Ds9(v:Value)(l:List Nat)(x:Nat)(w:World)(hr:RdV nI w w.heap.size v l):Calls Tryz.prog 218 #[v,.int .i64 (x:Int)] w (IxP (l.any fun n=>n==x) w):=by
 obtain⟨A,c,_,rfl,rfl,Ae,Ad⟩:=hr.bds
 have HR:=Hd hr;clear hr
 have HH:=fun j=>Hd (Fg6 (l:=l) (x:=x) (j:=j))
 have HM:=Hd (Eq2 (l:=l) (x:=x))
 generalize l.any (fun n=>n==x)=B at *
 go_enter Tryz.func218,Tryz.ntmps218
 go_wp2
 go_loopw[4,5,8] (fun r _ i wr=>∃j:Nat,r=.int .i64 0/\i=.int .i64 j/\j<=l.length/\Below w.heap.size w wr/\∀m,m<j->l[m]?≠some x) (fun _ _ i _=>l.length-(intOf i).toNat)
 case atStart=>exact⟨0,rfl,rfl,Nat.zero_le _,Q2 _ _,fun m h=>absurd h (Nat.not_lt_zero _)⟩
 case round=>
  obtain⟨j,rfl,rfl,hj,Aa,hf⟩:=hrel
  have HF:=Hd hf;clear hf
  by_cases hlt:j<l.length
  ·have Ac:l[j]?=some l[j]:=Q7 hlt
   obtain⟨ad,rfl,_,Ab⟩:=(HR.out.below Aa).at Ac
   have HJ:=Hd Ac;clear Ac
   generalize l[j]=y at Ab HJ
   have hg:wr.cell? (ad.add j)=some (.int .i64 (y:Int)):=Ab
   clear Ab
   by_cases he:y=x
   ·subst he
    have HB:=Hd ((HH j).out HJ.out)
    have hd:((y:Int)==(y:Int))=true:=beq_self_eq_true _
    clear HH HM HR HF
    go_wp2_with fail
    go_ret
    exact IxP.mk rfl (by rw[HB.out];exact Q4 (by omega)) Aa
   ·have hd:((x:Int)==(y:Int))=false:=beq_eq_false_iff_ne.2 (by omega)
    have HN:=Hd (show ∀m,m<j+1->l[m]?≠some x from fun m hm=>by
     by_cases e:m=j
     ·subst e;rw[HJ.out];intro h;exact he (Option.some.inj h)
     ·exact HF.out m (by omega))
    clear he
    go_wp2_with fail
    go_roundw
    case rel=>exact⟨j+1,rfl,by go_num,hlt,Aa,HN.out⟩
    case measure=>simp[intOf]<;>omega
  ·have HB:=Hd (HM.out (fun m hm=>HF.out m (by omega)))
   clear HH HM HR HF
   go_wp2
   go_ret
   exact IxP.mk rfl (by rw[HB.out];rfl) Aa
theorem Aq9(v:Value)(l:List Nat)(x:Nat)(w:World)(hr:RdV nI w w.heap.size v l):Calls Tryz.prog 189 #[v,.int .i64 (x:Int)] w (RetB (.bool (l.any fun n=>n==x)) w):=by
 have HI:=Hd (Ds9 v l x w hr)
 obtain⟨A,c,_,rfl,rfl,Ab,Aa⟩:=hr.bds
 clear hr
 generalize l.any (fun n=>n==x)=B at *
 go_enter Tryz.func189,Tryz.ntmps189
 go_wp2_with fail
 refine HI.out.mono ?_;rintro e w1 ⟨r,rfl,hd,hb⟩
 go_wp2
 go_ret
 exact RetB.mk rfl hb
theorem Cd6(nm:ByteArray)(ty sc:Int)(nu:Bool)(v:Value)(l:List Vl)(W:World)(hr:RdL W W.heap.size v l):
   Calls Tryz.prog 118 #[(.agg #[.string nm,.int .i64 ty,.int .i64 sc,.bool nu]),v] W (RetB (.int .i64 (Ak1 ty nu l:Nat)) W):=by
 obtain⟨A,c,_,rfl,rfl,Ao,An⟩:=hr.bds
 have HR:=Hd hr;clear hr
 have HV:=Hd (Var4.new W (.string nm) (.int .i64 ty) (.int .i64 sc) (.bool nu) 62)
 have Ak:=Hd ((Q2 W.heap.size W).alloc (Q1 _) (.cells #[.string nm,.int .i64 ty,.int .i64 sc,.bool nu] 62))
 have Al:=Hd (show(W.alloc (.cells #[.string nm,.int .i64 ty,.int .i64 sc,.bool nu] 62)).heap.size=W.heap.size+1 from by simp)
 have HH:=fun i x=>Hd (Bp2 (typ:=ty) (nu:=nu) (l:=l) (i:=i) (x:=x))
 have HM:=Hd (Ao8 (typ:=ty) (nu:=nu) (l:=l))
 generalize Ak1 ty nu l=E at *
 go_enter Tryz.func118,Tryz.ntmps118
 go_wp2
 go_loopw[4,6,7,10] (fun r _ _ i wr=>∃j:Nat,r=.int .i64 0/\i=.int .i64 j/\j<=l.length/\Below (W.heap.size+1) (W.alloc (.cells #[.string nm,.int .i64 ty,.int .i64 sc,.bool nu] 62)) wr/\∀m y,m<j->l[m]?=some y->Ae6 ty nu y=0) (fun _ _ _ i _=>l.length-(intOf i).toNat)
 case atStart=>exact⟨0,rfl,rfl,Nat.zero_le _,Q2 _ _,fun m y h=>absurd h (Nat.not_lt_zero _)⟩
 case round=>
  obtain⟨j,rfl,rfl,hj,Aa,hf⟩:=hrel
  have HF:=Hd hf;clear hf
  have Ag:Below W.heap.size W wr:=Ak.out.trans (Aa.mono (Nat.le_succ _))
  have Ab:=Aa.size
  rw[Al.out] at Ab
  by_cases hlt:j<l.length
  ·have Ac:l[j]?=some l[j]:=Q7 hlt
   obtain⟨ad,rfl,_,q0,q1,q2⟩:=(HR.out.below Ag).at Ac
   have HJ:=Hd Ac;clear Ac
   generalize l[j]=X at q0 q1 q2 HJ
   obtain⟨xb,xn,xs⟩:=X
   simp only at q0 q1 q2
   obtain⟨v0,v1,v2,v3⟩:=HV.out.below (Aa.alloc Ab (.cells #[.bool xb,.int .i64 xn,.string xs] 49)) (Nat.lt_succ_self _)
   have Ai:=Aa.alloc Ab (.cells #[.bool xb,.int .i64 xn,.string xs] 49)
   have Ah:(wr.alloc (.cells #[.bool xb,.int .i64 xn,.string xs] 49)).heap.size=wr.heap.size+1:=by simp
   have Aj:=Hd Ai;have HSV:=Hd Ah;clear Ai Ah
   go_wp2_with fail
   refine(Bb3 nm ty sc nu xb xn xs _).mono ?_;rintro e w2 ⟨rfl,Ad⟩
   have Af:=Aj.out.trans (Ad.mono (by rw[HSV.out];omega))
   obtain⟨C,hC⟩:∃C,Ae6 ty nu ⟨xb,xn,xs⟩=C:=⟨_,rfl⟩
   have Ae:chk ty nu xb xn xs=C:=hC
   rw[Ae]
   have HC:=Hd hC
   clear hC Ae Ad Aj q0 q1 q2 v0 v1 v2 v3
   by_cases h0:C=0
   ·subst h0
    have HN:=Hd (show ∀m y,m<j+1->l[m]?=some y->Ae6 ty nu y=0 from fun m y hm hy=>by
     by_cases e:m=j
     ·subst e;rw[HJ.out] at hy;obtain rfl:=Option.some.inj hy;exact HC.out
     ·exact HF.out m y (by omega) hy)
    go_wp2_with fail
    go_roundw
    case rel=>exact⟨j+1,rfl,by go_num,hlt,Af,HN.out⟩
    case measure=>simp[intOf]<;>omega
   ·have hd:((C:Int)!=0)=true:=Ab5 (by omega)
    have HE:=Hd (((HH j _).out HJ.out (by rw[HC.out];exact h0) (fun m y hm hy=>HF.out m y hm hy)).trans HC.out)
    clear h0 HH HM HF
    go_wp2_with fail
    go_ret
    exact RetB.mk (by rw[HE.out];rfl) (Ak.out.trans (Af.mono (Nat.le_succ _)))
  ·have HE:=Hd (HM.out (fun x hx=>by
     obtain⟨m,hm,rfl⟩:=List.mem_iff_getElem.1 hx
     exact HF.out m _ (by omega) (Q7 hm)))
   clear HH HM HF
   go_wp2
   go_ret
   exact RetB.mk (by rw[HE.out];rfl) Ag
end Go.P
namespace Go.CK
open RowKit VB VS
theorem Ah6{α β:Type}{f:α->β}{l:List α}{j:Nat}{x:α}(h:l[j]?=some x):(l.take (j+1)).map f=(l.take j).map f++[f x]:=by
 rw[List.take_add_one,h,List.map_append];rfl
theorem Af7{α β:Type}(f:α->β){l:List α}{j:Nat}(h:j<=l.length):((l.take j).map f).length=j:=by
 rw[List.length_map,List.length_take];omega
theorem Al6{α β:Type}(f:α->β){l:List α}{j:Nat}(h:j=l.length):(l.take j).map f=l.map f:=by
 rw[h,List.take_length]
def ofN(n:Int):Vl:=⟨false,n,⟨#[]⟩⟩
def ofS(s:ByteArray):Vl:=⟨false,0,s⟩
end Go.CK
namespace Go.P
open RowKit VB VarM BP RL VS VL DI CK
theorem By8(v:Value)(l:List Vl)(W:World)(hr:RdL W W.heap.size v l)(hl:l.length<=1000000):
   Calls Tryz.prog 164 #[v] W (RetV (Value.int .i64) 2 (l.map Vl.n) W):=by
 obtain⟨A,c,_,rfl,rfl,Ap,Ao⟩:=hr.bds
 have HR:=Hd hr;clear hr
 go_enter Tryz.func164,Tryz.ntmps164
 go_wp2
 go_loopw[3,8] (fun o i wr=>∃(j:Nat),i=.int .i64 j/\j<=l.length/\OwnV (Value.int .i64) 2 wr W.heap.size o ((l.take j).map Vl.n)/\Below W.heap.size W wr) (fun _ i _=>l.length-(intOf i).toNat)
 case atStart=>exact⟨0,rfl,Nat.zero_le _,OwnV.nil _ _ _ _,Q2 _ _⟩
 case round=>
  obtain⟨j,rfl,hj,Ab,Aa⟩:=hrel
  have An:=Af7 Vl.n hj
  by_cases hlt:j<l.length
  ·have Ae:l[j]?=some l[j]:=Q7 hlt
   obtain⟨ad,rfl,_,q0,q1,q2⟩:=(HR.out.below Aa).at Ae
   have HJ:=Hd Ae;clear Ae
   generalize l[j]=X at q0 q1 q2 HJ
   obtain⟨xb,xn,xs⟩:=X
   simp only at q0 q1 q2
   have Ak:=Hd (Ah6 (f:=Vl.n) HJ.out)
   generalize (l.take j).map Vl.n=m at *
   have Ad:=Aa.size
   have HO:=Hd ((Ab.alloc (.cells #[.bool xb,.int .i64 xn,.string xs] 49)).alloc (.cells #[(Value.int .i64) xn] 2))
   have Aj:=Hd (((Q2 W.heap.size wr).alloc Ad (.cells #[.bool xb,.int .i64 xn,.string xs] 49)).alloc (by simp;omega) (.cells #[(Value.int .i64) xn] 2))
   have Ah:=Hd (show m.length+[xn].length<=maxLen by unfold maxLen;simp only[Q6,Q8];omega)
   have Ai:=Hd (show(m.length+[xn].length)*8<=140737488355328 by simp only[Q6,Q8];omega)
   have Al:=Hd (show W.heap.size<=((wr.alloc (.cells #[.bool xb,.int .i64 xn,.string xs] 49)).alloc (.cells #[(Value.int .i64) xn] 2)).heap.size by simp;omega)
   have HX:=Hd (show RdV (Value.int .i64) ((wr.alloc (.cells #[.bool xb,.int .i64 xn,.string xs] 49)).alloc (.cells #[(Value.int .i64) xn] 2)) (wr.heap.size+1+1) (.slice (some ⟨wr.heap.size+1,0,none⟩) 1 1) [xn] by
    have h:=RdV.one (Value.int .i64) (wr.alloc (.cells #[.bool xb,.int .i64 xn,.string xs] 49)) xn 1 2 (by decide) (by decide)
    rw[show(wr.alloc (.cells #[.bool xb,.int .i64 xn,.string xs] 49)).heap.size=wr.heap.size+1 from by simp] at h
    exact h)
   clear Ab
   go_wp2_with(at_builtin;refine Ad0 (f:=(Value.int .i64)) (fun _=>rfl) (.int .i64 0) rfl rfl _ _ 197 rfl W.heap.size 2 8 Tryz.underlying197 Tryz.infI64 _ m rfl HO.out _ _ [xn] rfl HX.out Ah.out Ai.out Al.out ?_)
   intro v' w' Ac Af _
   have Ag:=Aj.out.trans Af
   go_wp2_with fail
   go_roundw
   case rel=>exact⟨j+1,by go_num,hlt,by rw[Ak.out];exact Ac,Aa.trans Ag⟩
   case measure=>simp[intOf]<;>omega
  ·have HF:=Hd (Al6 Vl.n (l:=l) (j:=j) (by omega))
   generalize (l.take j).map Vl.n=m at *
   go_wp2
   go_ret
   exact RetV.mk rfl (by rw[←HF.out];exact Ab) Aa
theorem Dm0(v:Value)(l:List Vl)(W:World)(hr:RdL W W.heap.size v l)(hl:l.length<=1000000):
   Calls Tryz.prog 166 #[v] W (RetV Value.string 9 (l.map Vl.s) W):=by
 obtain⟨A,c,_,rfl,rfl,Ap,Ao⟩:=hr.bds
 have HR:=Hd hr;clear hr
 go_enter Tryz.func166,Tryz.ntmps166
 go_wp2
 go_loopw[3,8] (fun o i wr=>∃(j:Nat),i=.int .i64 j/\j<=l.length/\OwnV Value.string 9 wr W.heap.size o ((l.take j).map Vl.s)/\Below W.heap.size W wr) (fun _ i _=>l.length-(intOf i).toNat)
 case atStart=>exact⟨0,rfl,Nat.zero_le _,OwnV.nil _ _ _ _,Q2 _ _⟩
 case round=>
  obtain⟨j,rfl,hj,Ab,Aa⟩:=hrel
  have An:=Af7 Vl.s hj
  by_cases hlt:j<l.length
  ·have Ae:l[j]?=some l[j]:=Q7 hlt
   obtain⟨ad,rfl,_,q0,q1,q2⟩:=(HR.out.below Aa).at Ae
   have HJ:=Hd Ae;clear Ae
   generalize l[j]=X at q0 q1 q2 HJ
   obtain⟨xb,xn,xs⟩:=X
   simp only at q0 q1 q2
   have Ak:=Hd (Ah6 (f:=Vl.s) HJ.out)
   generalize (l.take j).map Vl.s=m at *
   have Ad:=Aa.size
   have HO:=Hd ((Ab.alloc (.cells #[.bool xb,.int .i64 xn,.string xs] 49)).alloc (.cells #[Value.string xs] 9))
   have Aj:=Hd (((Q2 W.heap.size wr).alloc Ad (.cells #[.bool xb,.int .i64 xn,.string xs] 49)).alloc (by simp;omega) (.cells #[Value.string xs] 9))
   have Ah:=Hd (show m.length+[xs].length<=maxLen by unfold maxLen;simp only[Q6,Q8];omega)
   have Ai:=Hd (show(m.length+[xs].length)*16<=140737488355328 by simp only[Q6,Q8];omega)
   have Al:=Hd (show W.heap.size<=((wr.alloc (.cells #[.bool xb,.int .i64 xn,.string xs] 49)).alloc (.cells #[Value.string xs] 9)).heap.size by simp;omega)
   have HX:=Hd (show RdV Value.string ((wr.alloc (.cells #[.bool xb,.int .i64 xn,.string xs] 49)).alloc (.cells #[Value.string xs] 9)) (wr.heap.size+1+1) (.slice (some ⟨wr.heap.size+1,0,none⟩) 1 1) [xs] by
    have h:=RdV.one Value.string (wr.alloc (.cells #[.bool xb,.int .i64 xn,.string xs] 49)) xs 1 9 (by decide) (by decide)
    rw[show(wr.alloc (.cells #[.bool xb,.int .i64 xn,.string xs] 49)).heap.size=wr.heap.size+1 from by simp] at h
    exact h)
   clear Ab
   go_wp2_with(at_builtin;refine Ad0 (f:=Value.string) (fun _=>rfl) (.string ⟨#[]⟩) rfl rfl _ _ 81 rfl W.heap.size 9 16 Tryz.underlying81 Tryz.infStr _ m rfl HO.out _ _ [xs] rfl HX.out Ah.out Ai.out Al.out ?_)
   intro v' w' Ac Af _
   have Ag:=Aj.out.trans Af
   go_wp2_with fail
   go_roundw
   case rel=>exact⟨j+1,by go_num,hlt,by rw[Ak.out];exact Ac,Aa.trans Ag⟩
   case measure=>simp[intOf]<;>omega
  ·have HF:=Hd (Al6 Vl.s (l:=l) (j:=j) (by omega))
   generalize (l.take j).map Vl.s=m at *
   go_wp2
   go_ret
   exact RetV.mk rfl (by rw[←HF.out];exact Ab) Aa
theorem Bo3(v:Value)(l:List Int)(W:World)(hr:RdV (Value.int .i64) W W.heap.size v l)(hl:l.length<=1000000):
   Calls Tryz.prog 221 #[v] W (RetVl 49 (l.map ofN) W):=by
 obtain⟨A,c,_,rfl,rfl,Ar,Aq⟩:=hr.bds
 have HR:=Hd hr;clear hr
 have Aj:=Ax3 (P:=Tryz.prog) Tryz.underlying63 Tryz.infVal l.length (by omega) (by unfold maxLen;omega)
 have Aa:=RowL.made 49 W W.heap.size l.length (Q1 _) (by unfold maxLen;omega)
 have Ag:Below W.heap.size W (W.alloc (.cells (madeCells #[.bool false,.int .i64 0,.string ⟨#[]⟩] (l.length*3)) 49)):=(Q2 _ _).alloc (Q1 _) _
 have Af:=Aj W
 generalize hW:(W.alloc (.cells (madeCells #[.bool false,.int .i64 0,.string ⟨#[]⟩] (l.length*3)) 49))=W1 at Aa Ag Af
 clear Aj hW
 go_enter Tryz.func221,Tryz.ntmps221
 go_wp2
 clear Af
 go_loopw[11] (fun i wr=>∃(j:Nat)(ls:List Vl),i=.int .i64 j/\j<=l.length/\RowL 49 wr W.heap.size W.heap.size l.length ls/\ls.length=l.length/\ls=(l.take j).map ofN++List.replicate (l.length-j) vl0/\Below W.heap.size W wr) (fun i _=>l.length-(intOf i).toNat)
 case atStart=>exact⟨0,_,rfl,Nat.zero_le _,Aa,List.length_replicate,by simp,Ag⟩
 case round=>
  clear Aa Ag
  obtain⟨j,ls,rfl,hj,Ad,Ae,Ai,Ab⟩:=hrel
  have HL:=Hd Ae;have HLS:=Hd Ai;clear Ae Ai
  by_cases hlt:j<l.length
  ·have Ah:l[j]?=some l[j]:=Q7 hlt
   obtain⟨ad,rfl,_,q0⟩:=(HR.out.below Ab).at Ah
   have HJ:=Hd Ah;clear Ah
   generalize l[j]=x at q0 HJ
   replace q0:wr.cell? (ad.add j)=some (.int .i64 x):=q0
   have Ac:=Bk0 HLS.out (Af7 ofN hj) hlt
   obtain⟨k0,k1,k2⟩:=Ad.at Ac
   have Ak:=Ad.frozen (j*3+1)
   have Ao:=Hd (Ad.store j 1 (.int .i64 x) (x:=vl0) (x':=ofN x) Ac (by decide) rfl)
   have Al:=Hd (Al4 (x:=ofN x) HLS.out (Af7 ofN hj) hlt)
   have An:=Hd (Ah6 (f:=ofN) HJ.out)
   have Ap:=Ad.lt.2
   clear Ad Ac
   go_wp2_with fail
   go_roundw
   case rel=>exact⟨j+1,_,by go_num,hlt,Ao.out,by rw[List.length_set];exact HL.out,by rw[Al.out,An.out],Ab.setCell (Q1 _) _⟩
   case measure=>simp[intOf]<;>omega
  ·have HF:=Hd (show ls=l.map ofN by rw[HLS.out,Al6 ofN (by omega),show l.length-j=0 by omega,List.replicate_zero,List.append_nil])
   go_wp2
   go_ret
   exact RetVl.mk rfl (Ad.own_at HL.out HF.out) Ab
theorem Db2(v:Value)(l:List ByteArray)(W:World)(hr:RdV Value.string W W.heap.size v l)(hl:l.length<=1000000):
   Calls Tryz.prog 223 #[v] W (RetVl 49 (l.map ofS) W):=by
 obtain⟨A,c,_,rfl,rfl,Ar,Aq⟩:=hr.bds
 have HR:=Hd hr;clear hr
 have Aj:=Ax3 (P:=Tryz.prog) Tryz.underlying63 Tryz.infVal l.length (by omega) (by unfold maxLen;omega)
 have Aa:=RowL.made 49 W W.heap.size l.length (Q1 _) (by unfold maxLen;omega)
 have Ag:Below W.heap.size W (W.alloc (.cells (madeCells #[.bool false,.int .i64 0,.string ⟨#[]⟩] (l.length*3)) 49)):=(Q2 _ _).alloc (Q1 _) _
 have Af:=Aj W
 generalize hW:(W.alloc (.cells (madeCells #[.bool false,.int .i64 0,.string ⟨#[]⟩] (l.length*3)) 49))=W1 at Aa Ag Af
 clear Aj hW
 go_enter Tryz.func223,Tryz.ntmps223
 go_wp2
 clear Af
 go_loopw[11] (fun i wr=>∃(j:Nat)(ls:List Vl),i=.int .i64 j/\j<=l.length/\RowL 49 wr W.heap.size W.heap.size l.length ls/\ls.length=l.length/\ls=(l.take j).map ofS++List.replicate (l.length-j) vl0/\Below W.heap.size W wr) (fun i _=>l.length-(intOf i).toNat)
 case atStart=>exact⟨0,_,rfl,Nat.zero_le _,Aa,List.length_replicate,by simp,Ag⟩
 case round=>
  clear Aa Ag
  obtain⟨j,ls,rfl,hj,Ad,Ae,Ai,Ab⟩:=hrel
  have HL:=Hd Ae;have HLS:=Hd Ai;clear Ae Ai
  by_cases hlt:j<l.length
  ·have Ah:l[j]?=some l[j]:=Q7 hlt
   obtain⟨ad,rfl,_,q0⟩:=(HR.out.below Ab).at Ah
   have HJ:=Hd Ah;clear Ah
   generalize l[j]=x at q0 HJ
   replace q0:wr.cell? (ad.add j)=some (.string x):=q0
   have Ac:=Bk0 HLS.out (Af7 ofS hj) hlt
   obtain⟨k0,k1,k2⟩:=Ad.at Ac
   have Ak:=Ad.frozen (j*3+2)
   have Ao:=Hd (Ad.store j 2 (.string x) (x:=vl0) (x':=ofS x) Ac (by decide) rfl)
   have Al:=Hd (Al4 (x:=ofS x) HLS.out (Af7 ofS hj) hlt)
   have An:=Hd (Ah6 (f:=ofS) HJ.out)
   have Ap:=Ad.lt.2
   clear Ad Ac
   go_wp2_with fail
   go_roundw
   case rel=>exact⟨j+1,_,by go_num,hlt,Ao.out,by rw[List.length_set];exact HL.out,by rw[Al.out,An.out],Ab.setCell (Q1 _) _⟩
   case measure=>simp[intOf]<;>omega
  ·have HF:=Hd (show ls=l.map ofS by rw[HLS.out,Al6 ofS (by omega),show l.length-j=0 by omega,List.replicate_zero,List.append_nil])
   go_wp2
   go_ret
   exact RetVl.mk rfl (Ad.own_at HL.out HF.out) Ab
end Go.P
namespace Go.CK
open RowKit VB VS
theorem Bc8{n:Nat}(c:Nat)(h:c%256=n):bv (UInt8.ofNat n)=.int .u8 ((n:Nat):Int):=by
 show Value.int .u8 ((UInt8.ofNat n).toNat:Int)=_
 rw[←h,Aq3]
theorem Ek9(e:TypeId)(W:World)(c:Nat)(hc:c<4294967296)(m:Nat)(hm:4<=m)(Aa:m<=4):Fh0 e (W.alloc (.cells #[.int .u8 ((c:Int)%256),.int .u8 ((c:Int)/256%256),.int .u8 ((c:Int)/65536%256),.int .u8 ((c:Int)/16777216)] e)) W.heap.size (.slice (some ⟨W.heap.size,0,none⟩) 4 m) (Ad8 c):=by
 obtain rfl:m=4:=by omega
 have h:=World.ownsRow_lit (base:=W.heap.size) (e:=e) (size:=1) W #[.int .u8 ((c:Int)%256),.int .u8 ((c:Int)/256%256),.int .u8 ((c:Int)/65536%256),.int .u8 ((c:Int)/16777216)] 4 (Q1 _) (by decide) rfl
 have e0:(Ad8 c).map bv=[.int .u8 ((c:Int)%256),.int .u8 ((c:Int)/256%256),.int .u8 ((c:Int)/65536%256),.int .u8 ((c:Int)/16777216)]:=by
  show[bv _,bv _,bv _,bv _]=_
  rw[Bc8 c rfl,Bc8 (c/256) rfl,Bc8 (c/65536) rfl,Bc8 (c/16777216) rfl,Nat.mod_eq_of_lt (show c/16777216<256 by omega)]
  rfl
 show World.ownsRow _ _ e 1 _ 4 ((Ad8 c).map bv)
 rw[e0]
 exact h
end Go.CK
namespace Go.P
open RowKit VB VarM BP RL VS VL DI CK CR
theorem Ay5(c:Nat)(W:World)(hc:c<4294967296):Calls Tryz.prog 52 #[.int .u32 (c:Int)] W (RetB (.string (str (Ad8 c))) W):=by
 have Aa:=Ad4 (P:=Tryz.prog) 41 9 5 Tryz.underlying41 Tryz.underlying5 Tryz.underlying9 (Ek9 5 W c hc 4 (by decide) (by decide))
 have hb:Below W.heap.size W (W.alloc (.cells #[.int .u8 ((c:Int)%256),.int .u8 ((c:Int)/256%256),.int .u8 ((c:Int)/65536%256),.int .u8 ((c:Int)/16777216)] 5)):=(Q2 _ _).alloc (Q1 _) _
 generalize str (Ad8 c)=S at *
 go_enter Tryz.func52,Tryz.ntmps52
 go_wp2
 go_ret
 exact RetB.mk rfl hb
theorem Bp4(s:ByteArray)(w:World)(zs:s.size<=140737488351232):Calls Tryz.prog 54 #[.string s] w (RetB (.int .u32 (Ap1 s.data.toList:Nat)) w):=by
 go_enter Tryz.func54,Tryz.ntmps54
 go_wp2_with fail
 refine(Bn6 _).mono ?_
 rintro e w1 ⟨v,rfl,Aa,hB⟩
 go_wp2_with fail
 refine(Co7 v tab s w1 Aa.read Go.CR.tab_lt zs).mono ?_
 rintro e w2 ⟨rfl,rfl⟩
 go_wp2
 go_ret
 exact RetB.mk rfl hB
theorem Cd3(s:ByteArray)(W:World)(zs:s.size<=140737488351232):Calls Tryz.prog 122 #[.string s] W (RetB (.string (str (Ad8 (Ap1 s.data.toList)))) W):=by
 have hS:=fun v w(h:RdN .u32 w w.heap.size v tab)=>Bv8 v tab s w h Go.CR.tab_lt zs
 have Ap:=Aq8 s.data.toList
 unfold Ap1 at *
 generalize sumL tab s.data.toList=c at *
 have HS:=Hd hS;clear hS
 have hz:(Value.int .u8 0)=bv 0:=rfl
 go_enter Tryz.func122,Tryz.ntmps122
 go_wp2_with fail
 refine(As8 _).mono ?_
 rintro e w1 ⟨v,rfl,Ac,hB⟩
 go_wp2_with fail
 refine(HS.out v w1 Ac.read).mono ?_
 rintro e w2 ⟨rfl,rfl⟩
 clear HS
 have An:=Am9 (P:=Tryz.prog) (z:=.int .u8 0) rfl Tryz.underlying41 Tryz.inf8 4 (by omega) (by decide) w1
 have Ae:=RowV.made bv 0 5 w1 w1.heap.size 4 (Q1 _) (by decide)
 have Al:Below w1.heap.size w1 (w1.alloc (.cells (madeCells #[.int .u8 0] 4) 5)):=(Q2 _ _).alloc (Q1 _) _
 change RowV bv 5 (w1.alloc (.cells (madeCells #[.int .u8 0] 4) 5)) w1.heap.size w1.heap.size 4 (List.replicate 4 0) at Ae
 have Aj:(Instr.makeSlice 41 (.int .i64 4) (.int .i64 4)).run Tryz.prog w1=.ok (.slice (some ⟨w1.heap.size,0,none⟩) 4 4) (w1.alloc (.cells (madeCells #[.int .u8 0] 4) 5)):=An
 clear An Ac
 generalize w1.alloc (.cells (madeCells #[.int .u8 0] 4) 5)=W2 at *
 go_wp2
 clear Aj
 go_loopw[12] (fun i wr=>∃(j:Nat)(ls:List UInt8),i=.int .i64 j/\j<=4/\RowV bv 5 wr w1.heap.size w1.heap.size 4 ls/\ls.length=4/\ls=(Ad8 c).take j++List.replicate (4-j) 0/\Below w1.heap.size w1 wr) (fun i _=>4-(intOf i).toNat)
 case atStart=>exact⟨0,_,rfl,Nat.zero_le _,Ae,rfl,rfl,Al⟩
 case round=>
  clear Ae Al
  obtain⟨j,ls,rfl,hj,Aa,Ag,Ak,Ad⟩:=hrel
  have HL:=Hd Ag;have HLS:=Hd Ak;clear Ag Ak
  have h4:j=0\/j=1\/j=2\/j=3\/j=4:=by omega
  rcases h4 with rfl | rfl | rfl | rfl | rfl
  ·have hc:=Aa.cell 0 0 (by rw[HLS.out];rfl)
   have Ai:=Aa.frozen 0
   have ev:bv (UInt8.ofNat (c%256))=.int .u8 ((c:Int)%256):=by rw[Bc8 c rfl];congr 1<;>omega
   have Ab:=Aa.store 0 (UInt8.ofNat (c%256))
   rw[ev] at Ab
   have Af:=Hd Ab
   have HN:=Hd (show ls.set 0 (UInt8.ofNat (c%256))=(Ad8 c).take (0+1)++List.replicate (4-(0+1)) 0 by rw[HLS.out];rfl)
   have Ah:=Aa.lt.2
   clear Ab ev Aa
   go_wp2_with fail
   go_roundw
   case rel=>exact⟨0+1,_,by go_num,by omega,Af.out,by rw[List.length_set];exact HL.out,HN.out,Ad.setCell (Q1 _) _⟩
   case measure=>simp[intOf]<;>omega
  ·have hc:=Aa.cell 1 0 (by rw[HLS.out];rfl)
   have Ai:=Aa.frozen 1
   have ev:bv (UInt8.ofNat ((c/256)%256))=.int .u8 ((c:Int)/256%256):=by rw[Bc8 (c/256) rfl];congr 1<;>omega
   have Ab:=Aa.store 1 (UInt8.ofNat ((c/256)%256))
   rw[ev] at Ab
   have Af:=Hd Ab
   have HN:=Hd (show ls.set 1 (UInt8.ofNat ((c/256)%256))=(Ad8 c).take (1+1)++List.replicate (4-(1+1)) 0 by rw[HLS.out];rfl)
   have Ah:=Aa.lt.2
   clear Ab ev Aa
   go_wp2_with fail
   go_roundw
   case rel=>exact⟨1+1,_,by go_num,by omega,Af.out,by rw[List.length_set];exact HL.out,HN.out,Ad.setCell (Q1 _) _⟩
   case measure=>simp[intOf]<;>omega
  ·have hc:=Aa.cell 2 0 (by rw[HLS.out];rfl)
   have Ai:=Aa.frozen 2
   have ev:bv (UInt8.ofNat ((c/65536)%256))=.int .u8 ((c:Int)/65536%256):=by rw[Bc8 (c/65536) rfl];congr 1<;>omega
   have Ab:=Aa.store 2 (UInt8.ofNat ((c/65536)%256))
   rw[ev] at Ab
   have Af:=Hd Ab
   have HN:=Hd (show ls.set 2 (UInt8.ofNat ((c/65536)%256))=(Ad8 c).take (2+1)++List.replicate (4-(2+1)) 0 by rw[HLS.out];rfl)
   have Ah:=Aa.lt.2
   clear Ab ev Aa
   go_wp2_with fail
   go_roundw
   case rel=>exact⟨2+1,_,by go_num,by omega,Af.out,by rw[List.length_set];exact HL.out,HN.out,Ad.setCell (Q1 _) _⟩
   case measure=>simp[intOf]<;>omega
  ·have hc:=Aa.cell 3 0 (by rw[HLS.out];rfl)
   have Ai:=Aa.frozen 3
   have ev:bv (UInt8.ofNat ((c/16777216)%256))=.int .u8 ((c:Int)/16777216):=by rw[Bc8 (c/16777216) rfl];congr 1<;>omega
   have Ab:=Aa.store 3 (UInt8.ofNat ((c/16777216)%256))
   rw[ev] at Ab
   have Af:=Hd Ab
   have HN:=Hd (show ls.set 3 (UInt8.ofNat ((c/16777216)%256))=(Ad8 c).take (3+1)++List.replicate (4-(3+1)) 0 by rw[HLS.out];rfl)
   have Ah:=Aa.lt.2
   clear Ab ev Aa
   go_wp2_with fail
   go_roundw
   case rel=>exact⟨3+1,_,by go_num,by omega,Af.out,by rw[List.length_set];exact HL.out,HN.out,Ad.setCell (Q1 _) _⟩
   case measure=>simp[intOf]<;>omega
  ·have hF:ls=Ad8 c:=by rw[HLS.out];rfl
   have Ac:Fh0 5 wr w1.heap.size (.slice (some ⟨w1.heap.size,0,none⟩) 4 4) (Ad8 c):=by
    have:=Aa.own_at HL.out hF
    exact this
   have Ao:=Ad4 (P:=Tryz.prog) 41 9 5 Tryz.underlying41 Tryz.underlying5 Tryz.underlying9 Ac
   clear Aa Ac hF
   generalize str (Ad8 c)=S at *
   go_wp2
   go_ret
   exact RetB.mk rfl (Aa0 hB Ad)
theorem Bv9(s:ByteArray)(W:World)(h:s.size<5):Calls Tryz.prog 150 #[.string s] W (RetB (.tuple #[.string ⟨#[]⟩,.int .i64 10]) W):=by
 have hd:decide ((s.size:Int)<5)=true:=Q4 (by omega)
 go_enter Tryz.func150,Tryz.ntmps150
 go_wp2
 go_ret2
 exact RetB.mk rfl (Q2 _ _)
theorem De8(s T U F:ByteArray)(n:Nat)(b:Bool)(W:World)(zs:s.size<=140737488351232)(hn:s.size=n+4)(h1:1<=n)(hT:s.extract 0 (s.size-4)=T)(hU:s.extract n s.size=U)(hF:str (Ad8 (Ap1 T.data.toList))=F)(hd:(U.toList==F.toList)=b):
   Calls Tryz.prog 150 #[.string s] W (RetB (.tuple #[.string (if b  then T  else ⟨#[]⟩),.int .i64 (if b  then 0  else  9:Nat)]) W):=by
 have Af:T.size=n:=by rw[←hT,ByteArray.size_extract];omega
 have HC:=fun w=>Hd (Cd3 T w (by omega))
 rw[hF] at HC
 clear hF
 have Ac:decide ((s.size:Int)<5)=false:=Q3 (by omega)
 have Ae:(n:Int)<=(s.size:Int):=by omega
 have h4:(4:Int)<=(s.size:Int):=by omega
 have Ad:(s.size:Int)-4<=(s.size:Int):=by omega
 have HN:=Hd hn;clear hn
 go_enter Tryz.func150,Tryz.ntmps150
 cases b
 all_goals
  go_wp2_with fail
  go_region_with(first | (go_at_call 122;(with_reducible refine(HC _).out.mono ?_);rintro e w' ⟨rfl,hb⟩))
  all_goals
   go_wp2
   go_ret2
   exact RetB.mk rfl (Aa0 (by go_grown) hb)
theorem Bk5(s:ByteArray)(W:World)(zs:s.size<=140737488351232):
   Calls Tryz.prog 150 #[.string s] W (RetB (.tuple #[.string (if Ac0 s=0 then s.extract 0 (s.size-4) else⟨#[]⟩),.int .i64 (Ac0 s:Nat)]) W):=by
 by_cases h5:s.size<5
 ·rw[Bc0 h5]
  exact Bv9 s W h5
 ·have h:=De8 s _ _ _ (s.size-4) _ W zs (by omega) (by omega) rfl rfl rfl rfl
  have hc:=Aq8 (s.extract 0 (s.size-4)).data.toList
  by_cases he:Ac6 s (s.size-4)=Ap1 (s.extract 0 (s.size-4)).data.toList
  ·rw[Dk3 (by omega) he]
   rw[Az8 ((Ca6 (by omega) hc).2 he)] at h
   exact h
  ·rw[Cy6 (by omega) he]
   rw[Au2 (fun e=>he ((Ca6 (by omega) hc).1 e))] at h
   exact h
end Go.P
