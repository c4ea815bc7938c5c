/- Texts of one part, joined. -/
import Derived.Test.YtnmlajmaffiigaaGreatDoorCkW4
import Derived.Test.YtnmlajmaffiigaaGreatDoorDltW6
import Derived.Deep.RegionWith
import Derived.Deep.CutRange
import Derived.Test.YtnmlajmaffiigaaGreatDoorCkW1
import Derived.Test.YtnmlajmaffiigaaGreatDoorCkW8
import Derived.Test.YtnmlajmaffiigaaGreatDoorGk
import Derived.Test.YtnmlajmaffiigaaGreatDoorBtO
import Derived.BigQuiet
set_option linter.constructorNameAsVariable false
set_option maxRecDepth 100000
set_option maxHeartbeats 1500000
open Go Go.Proofs Go.Proofs.YtnmlajmaffiigaaGreatDoor Go.P
namespace Go.CK
open RowKit VB VarM BP VS NU VL
theorem own_apart{e e':TypeId}(he:e≠e'){w:World}{base Aa:Nat}{v v':Value}{l:List Bool}{l':List Vl}(h:OwnV Value.bool e w base v l)(h':OwnL e' w Aa v' l'):v'.ownBlock=none\/v'.ownBlock≠v.ownBlock:=by
 rcases h'.2 with⟨rfl,_⟩ | ⟨g',c',Ac,rfl,_,Ab,_⟩
 ·exact .inl rfl
 ·refine .inr fun e0=>?_
  rcases h.2 with⟨rfl,_⟩ | ⟨g,c,Ad,rfl,_,hg,_⟩
  ·cases e0
  ·have:g'=g:=Option.some.inj e0
   subst this
   rw[hg] at Ab
   injection Ab with h1
   injection h1 with _ h2
   exact he h2
theorem Db1{e e':TypeId}(he:e≠e'){w:World}{base Aa:Nat}{v v':Value}{l:List Bool}{l':List Vl}(h:OwnV Value.bool e w base v l)(h':OwnL e' w Aa v' l'):v.ownBlock=none\/v.ownBlock≠v'.ownBlock:=by
 rcases h.2 with⟨rfl,_⟩ | ⟨g,c,Ad,rfl,_,hg,_⟩
 ·exact .inl rfl
 ·refine .inr fun e0=>?_
  rcases h'.2 with⟨rfl,_⟩ | ⟨g',c',Ac,rfl,_,Ab,_⟩
  ·cases e0
  ·have:g=g':=Option.some.inj e0
   subst this
   rw[hg] at Ab
   injection Ab with h1
   injection h1 with _ h2
   exact he h2
theorem OwnV.ne'{α:Type}{f:α->Value}{e:TypeId}{w:World}{base b:Nat}{v:Value}{l:List α}(h:OwnV f e w base v l)(hb:w.heap.size<=b):v.ownBlock≠some b:=fun e0=>by
 have:=(OwnV.lt h b e0).2
 omega
theorem OwnV.keepG{α:Type}{f:α->Value}{e:TypeId}{w w':World}{base:Nat}{v:Value}{l:List α}{row:Option Nat}(h:OwnV f e w base v l)(hg:w.grownBy w' row)(Aa:v.ownBlock=none\/v.ownBlock≠row):OwnV f e w' base v l:=World.ownsRow.kept h hg Aa
theorem usesI(typ codec:Int):uses typ codec=if typ=3 then decide (codec=1\/codec=3) else decide (codec=1\/codec=2\/codec=4):=rfl
end Go.CK
namespace Go.P
open RowKit VB VarM BP RL VS VL DI CK NU
theorem Ee0(typ codec:Int)(W:World):Calls Tryz.prog 94 #[.int .i64 typ,.int .i64 codec] W (RetB (.bool (uses typ codec)) W):=by
 rw[usesI]
 by_cases h3:typ=3
 ·rw[if_pos h3]
  have e0:=Bm4 h3
  clear h3
  have hc:codec=1\/codec=3\/(¬codec=1/\¬codec=3):=by omega
  rcases hc with rfl | rfl | ⟨h1,h2⟩
  ·go_enter Tryz.func94,Tryz.ntmps94
   go_wp2
   go_ret
   exact RetB.mk rfl (Q2 _ _)
  ·go_enter Tryz.func94,Tryz.ntmps94
   go_wp2
   go_ret
   exact RetB.mk rfl (Q2 _ _)
  ·rw[Q3 (by omega)]
   have e1:=Ab3 h1
   have e2:=Ab3 h2
   clear h1 h2
   go_enter Tryz.func94,Tryz.ntmps94
   go_wp2
   go_ret
   exact RetB.mk rfl (Q2 _ _)
 ·rw[if_neg h3]
  have e0:=Ab3 h3
  clear h3
  have hc:codec=1\/codec=2\/codec=4\/(¬codec=1/\¬codec=2/\¬codec=4):=by omega
  rcases hc with rfl | rfl | rfl | ⟨h1,h2,h4⟩
  ·go_enter Tryz.func94,Tryz.ntmps94
   go_wp2
   go_ret
   exact RetB.mk rfl (Q2 _ _)
  ·go_enter Tryz.func94,Tryz.ntmps94
   go_wp2
   go_ret
   exact RetB.mk rfl (Q2 _ _)
  ·go_enter Tryz.func94,Tryz.ntmps94
   go_wp2
   go_ret
   exact RetB.mk rfl (Q2 _ _)
  ·rw[Q3 (by omega)]
   have e1:=Ab3 h1
   have e2:=Ab3 h2
   have e4:=Ab3 h4
   clear h1 h2 h4
   go_enter Tryz.func94,Tryz.ntmps94
   go_wp2
   go_ret
   exact RetB.mk rfl (Q2 _ _)
section
variable (typ:Int) (v:Value) (l:List Vl) (W:World) (hr:RdL W W.heap.size v l) (hl:l.length<=4096) (hv:∀x∈l,Vok x)
include hr hl hv
theorem rpay_1:Calls Tryz.prog 133 #[.int .i64 typ,.int .i64 1,v] W (RetB (.string (str (Av6 typ 1 l))) W):=by
 rw[Do6]
 obtain⟨A,c,_,rfl,rfl,Ay,Ax⟩:=hr.bds
 have HR:=Hd hr;have HV:=Hd hv;clear hr hv
 have H3:=Hd (Classical.em (typ=3))
 go_enter Tryz.func133,Tryz.ntmps133
 go_wp2
 go_loopw[7,28] (fun sv i wr=>∃(j:Nat),i=.int .i64 j/\j<=l.length/\sv=.string (str (Ag8 typ (l.take j)))/\Below W.heap.size W wr) (fun _ i _=>l.length-(intOf i).toNat)
 case atStart=>exact⟨0,rfl,Nat.zero_le _,rfl,Q2 _ _⟩
 case round=>
  obtain⟨j,rfl,hj,rfl,Aa⟩:=hrel
  by_cases hlt:j<l.length
  ·have Af:l[j]?=some l[j]:=Q7 hlt
   obtain⟨ad,rfl,_,q0,q1,q2⟩:=(HR.out.below Aa).at Af
   have HJ:=Hd Af;clear Af
   have Ai:=HV.out l[j] (List.getElem_mem hlt)
   have Ab:=Cp9 (typ:=typ) (Ed5 HV.out j)
   have Ae:(l.take j).length<=4096:=by rw[List.length_take];omega
   generalize l[j]=X at q0 q1 q2 HJ Ai
   obtain⟨xb,xn,xs⟩:=X
   obtain⟨An,Ac⟩:=Ai
   simp only at q0 q1 q2 An Ac
   have HP:=Hd (Da5 (typ:=typ) HJ.out)
   generalize Ag8 typ (l.take j)=bs at Ab HP
   have As:bs.length<=303104:=by omega
   clear Ab Ae
   have Aj:=Hd (Aa.alloc Aa.size (.cells #[.bool xb,.int .i64 xn,.string xs] 49))
   have Au:=Hd (show(wr.alloc (.cells #[.bool xb,.int .i64 xn,.string xs] 49)).heap.size=wr.heap.size+1 by simp)
   have Ao:=Hd (show(wr.alloc (.cells #[.bool xb,.int .i64 xn,.string xs] 49)).cell? ⟨wr.heap.size,2,none⟩=some (.string xs) by simp)
   rcases H3.out with h3 | h3
   ·have hq:xs.size<18446744073709551616:=by omega
    have w1:IntKind.u64.wrap (xs.size:Int)=(xs.size:Int):=by rw[IntKind.wrap_u64];omega
    have hP:=fun w=>Hd (Ac5 xs.size w hq)
    have Ar:=Aa5 hq
    have HO:=Hd (show one typ ⟨xb,xn,xs⟩=Aa4 xs.size++xs.data.toList by unfold one;rw[if_pos h3])
    have e3:=Bm4 h3
    have Ap:=fun w=>Ah7 (P:=Tryz.prog) (Aa4 xs.size) xs.data.toList (by rw[Aa1];omega) w
    rw[Aw5] at Ap
    have Aq:=fun w=>Ah7 (P:=Tryz.prog) bs (Aa4 xs.size++xs.data.toList) (by rw[Q5,Aa1];omega) w
    clear h3 Aa
    have Al:=Ao.out
    have Aw:(wr.alloc (.cells #[.bool xb,.int .i64 xn,.string xs] 49)).drew.cell? ⟨wr.heap.size,2,none⟩=some (.string xs):=Al
    go_wp2_with fail
    go_region_with(first | (go_at_call 48;(with_reducible refine(hP _).out.mono ?_);rintro e w3 ⟨rfl,Ad⟩;have hc3:=(Ad.cell (p:=⟨wr.heap.size,2,none⟩) (Eq3 wr (.cells #[.bool xb,.int .i64 xn,.string xs] 49))).trans Al))
    all_goals
     go_wp2_with fail
     go_roundw
     case rel=>exact⟨j+1,by go_num,hlt,by rw[HP.out,HO.out],Aa0 Aj.out.drew Ad⟩
     case measure=>simp[intOf]<;>omega
   ·have e3:=Ab3 h3
    obtain⟨z,Ag,Ah,Ak⟩:=Bq9 Ac
    have HZ:=fun w=>Hd (Ax1 xn w Ac.1 Ac.2)
    rw[Ag] at HZ
    have hP:=fun w=>Hd (Ac5 z w Ak)
    have Ar:=Aa5 Ak
    have HO:=Hd (show one typ ⟨xb,xn,xs⟩=Aa4 z by unfold one;rw[if_neg h3];show Aa4 (Ai4 xn).toNat=_;rw[Ah])
    have Aq:=fun w=>Ah7 (P:=Tryz.prog) bs (Aa4 z) (by omega) w
    clear Ag Ah h3 Aa
    go_wp2_with fail
    (with_reducible refine(HZ _).out.mono ?_);rintro e w2 ⟨rfl,rfl⟩
    go_wp2_with fail
    (with_reducible refine(hP _).out.mono ?_);rintro e w3 ⟨rfl,Ad⟩
    go_wp2_with fail
    go_roundw
    case rel=>exact⟨j+1,by go_num,hlt,by rw[HP.out,HO.out],Aa0 Aj.out Ad⟩
    case measure=>simp[intOf]<;>omega
  ·have HT:=Hd (show l.take j=l from List.take_of_length_le (by omega))
   rw[HT.out]
   generalize str (Ag8 typ l)=S at *
   go_wp2
   go_ret
   exact RetB.mk rfl Aa
theorem rpay_2:Calls Tryz.prog 133 #[.int .i64 typ,.int .i64 2,v] W (RetB (.string (str (Av6 typ 2 l))) W):=by
 rw[Es7]
 have HN:=Hd (By8 v l W hr (by omega))
 have HI:=Hd (Bt5 hv)
 have Ab:(Be4 l).length<=4096:=by rw[show(Be4 l).length=l.length from List.length_map _];exact hl
 have HE:=Hd (fun(v:Value)(w:World)(h:RdV (Value.int .i64) w w.heap.size v (Be4 l))=>Cg4 v (Be4 l) w.heap.size w h (Q1 _) HI.out (by omega))
 change Hid (Calls _ _ _ W (RetV (Value.int .i64) 2 (Be4 l) W)) at HN
 clear hr hv
 generalize Be4 l=zl at *
 generalize str (As6 zl)=S at *
 go_enter Tryz.func133,Tryz.ntmps133
 go_wp2_with fail
 (with_reducible refine HN.out.mono ?_);rintro e w1 ⟨v1,rfl,Aa,Ad⟩
 go_wp2_with fail
 (with_reducible refine(HE.out v1 w1 Aa.read).mono ?_);rintro e w2 ⟨rfl,Ac⟩
 have hB:=Aa0 Ad Ac
 go_wp2
 go_ret
 exact RetB.mk rfl hB
theorem rpay_3:Calls Tryz.prog 133 #[.int .i64 typ,.int .i64 3,v] W (RetB (.string (str (Av6 typ 3 l))) W):=by
 rw[Es6]
 have HN:=Hd (Dm0 v l W hr (by omega))
 have hI:=Di5 hv
 have Ab:(Bx6 l).length<=4096:=by rw[show(Bx6 l).length=l.length from List.length_map _];exact hl
 have Ad:=Dx1 Ab hI
 have HE:=Hd (fun(v:Value)(w:World)(h:RdV Value.string w w.heap.size v (Bx6 l))=>Bz1 v (Bx6 l) w.heap.size w h (Q1 _) (by omega) (fun x hx=>Nat.le_trans (hI x hx) (by decide)) (by omega))
 change Hid (Calls _ _ _ W (RetV Value.string 9 (Bx6 l) W)) at HN
 clear hr hv hI Ad
 generalize Bx6 l=zl at *
 generalize str (encD zl)=S at *
 go_enter Tryz.func133,Tryz.ntmps133
 go_wp2_with fail
 (with_reducible refine HN.out.mono ?_);rintro e w1 ⟨v1,rfl,Aa,Ae⟩
 go_wp2_with fail
 (with_reducible refine(HE.out v1 w1 Aa.read).mono ?_);rintro e w2 ⟨rfl,Ac⟩
 have hB:=Aa0 Ae Ac
 go_wp2
 go_ret
 exact RetB.mk rfl hB
theorem rpay_4:Calls Tryz.prog 133 #[.int .i64 typ,.int .i64 4,v] W (RetB (.string (str (Av6 typ 4 l))) W):=by
 rw[Es5]
 have HN:=Hd (By8 v l W hr (by omega))
 have HI:=Hd (Bt5 hv)
 have HE:=Hd (fun(v:Value)(w:World)(h:RdV (Value.int .i64) w w.heap.size v (Be4 l))=>Bz2 v (Be4 l) w.heap.size w h (Q1 _) HI.out)
 change Hid (Calls _ _ _ W (RetV (Value.int .i64) 2 (Be4 l) W)) at HN
 clear hr hv
 generalize Be4 l=zl at *
 generalize str (Go.DL.encX zl)=S at *
 go_enter Tryz.func133,Tryz.ntmps133
 go_wp2_with fail
 (with_reducible refine HN.out.mono ?_);rintro e w1 ⟨v1,rfl,Aa,Ac⟩
 go_wp2_with fail
 (with_reducible refine(HE.out v1 w1 Aa.read).mono ?_);rintro e w2 ⟨rfl,Ab⟩
 have hB:=Aa0 Ac Ab
 go_wp2
 go_ret
 exact RetB.mk rfl hB
theorem Ef6(codec:Nat)(h1:1<=codec)(h4:codec<=4):Calls Tryz.prog 133 #[.int .i64 typ,.int .i64 (codec:Int),v] W (RetB (.string (str (Av6 typ codec l))) W):=by
 have h:codec=1\/codec=2\/codec=3\/codec=4:=by omega
 rcases h with rfl | rfl | rfl | rfl
 ·exact rpay_1 typ v l W hr hl hv
 ·exact rpay_2 typ v l W hr hl hv
 ·exact rpay_3 typ v l W hr hl hv
 ·exact rpay_4 typ v l W hr hl hv
end
end Go.P
namespace Go.VB
open RowKit
theorem Below.cellOf{w w':World}(hb:Below w.heap.size w w'){g i:Nat}{x:Value}(h:w.cell? ⟨g,i,none⟩=some x):w'.cell? ⟨g,i,none⟩=some x:=(hb.cell (p:=⟨g,i,none⟩) (World.block_lt_of_cell? w _ h)).trans h
end Go.VB
namespace Go.CK
open RowKit VB VarM
theorem gb_facts{n z k:Nat}(hk:n-z=k)(hz:z<=n)(hn:n<=4096):wrap64 ((n:Int)-(z:Int))=(k:Int)/\(n:Int)-(z:Int)=(k:Int)/\IntKind.u64.wrap (n:Int)=(n:Int)/\IntKind.u64.wrap (k:Int)=(k:Int)/\IntKind.i64.wrap (k:Int)=(k:Int)/\wrap64 (k:Int)=(k:Int)/\IntKind.i64.wrap ((n:Int)-(z:Int))=(k:Int):=
 ⟨by unfold wrap64;omega,by omega,by rw[IntKind.wrap_u64];omega,by rw[IntKind.wrap_u64];omega,IntWalk.i64_in _ ⟨by omega,by omega⟩,by unfold wrap64;omega,by rw[show(n:Int)-(z:Int)=(k:Int) by omega];exact IntWalk.i64_in _ ⟨by omega,by omega⟩⟩
theorem hd_len{c:UInt8}{n k:Nat}(h1:(Aa4 n).length<=10)(h2:(Aa4 k).length<=10):[c].length+(Aa4 n).length<=4611686018427387904/\([c]++Aa4 n).length+(Aa4 k).length<=4611686018427387904/\([c]++Aa4 n++Aa4 k).length<=21:=by
 simp only[Q5,Q6,Q8]
 omega
end Go.CK
namespace Go.P
open RowKit VB VarM BP RL VS VL DI CK NU
theorem Df3(nm:ByteArray)(ty sc:Int)(nu:Bool)(codec:Nat)(v:Value)(l:List Vl)(W:World)(h1:1<=codec)(h4:codec<=4)(hr:RdL W W.heap.size v l)(hl:l.length<=4096)(hv:∀x∈l,Vok x):
   Calls Tryz.prog 95 #[(.agg #[.string nm,.int .i64 ty,.int .i64 sc,.bool nu]),.int .i64 (codec:Int),v] W (RetB (.string (str (Aa7 ty codec l))) W):=by
 obtain⟨A,c,_,rfl,rfl,Eh,Du⟩:=hr.bds
 have Bg:=Ao0 l
 have Ao:=Cg0 hv
 have Ax:=fun v2 w h=>Hd (Ef6 ty v2 (Ab9 l) w h (Nat.le_trans Bg hl) Ao codec h1 h4)
 have Dn:=fun v1 w h=>Hd (Cz4 v1 (Ae3 l) w.heap.size w h (Q1 _) (by rw[Af3];omega))
 have Ck:=fun w=>Hd (Ac5 l.length w (by omega))
 have Cx:=fun w=>Hd (Ac5 (l.length-(Ab9 l).length) w (by omega))
 have Db:=Aa5 (n:=l.length) (by omega)
 have Dp:=Aa5 (n:=l.length-(Ab9 l).length) (by omega)
 have Ci:=Ea5 (typ:=ty) (k:=codec) hl hv
 have Cf:=Az2 (Ae3 l)
 rw[Af3] at Cf
 have Aa:bodyB ty codec l=[UInt8.ofNat codec]++Aa4 l.length++Aa4 (l.length-(Ab9 l).length)++(if(Ab9 l).length<l.length then(bmp (Ae3 l)).data.toList else[])++Av6 ty codec (Ab9 l):=rfl
 have Cn:=Es0 (typ:=ty) (codec:=((codec:Nat):Int)) (Nat.le_trans Bg hl) Ao
 have Cc:=Hd ((Q2 W.heap.size W).alloc (Q1 _) (.cells #[.string nm,.int .i64 ty,.int .i64 sc,.bool nu] 62))
 have Bh:=Hd (show(W.alloc (.cells #[.string nm,.int .i64 ty,.int .i64 sc,.bool nu] 62)).heap.size=W.heap.size+1 from by simp)
 have Cs:=Hd (Var4.new W (.string nm) (.int .i64 ty) (.int .i64 sc) (.bool nu) 62)
 have HR:=Hd (hr.step Cc.out)
 have w8:=u8_of h4
 have hF:=Ay5
 have An:=fun w=>Hd (Bp4 (str (bodyB ty codec l)) w (by rw[Aa3];omega))
 rw[Ab7] at An
 have Af:=fun w=>Hd (Ay5 (Ap1 (bodyB ty codec l)) w (Aq8 _))
 have By:∀(w:World)(g:Nat),w.cell? ⟨g,0,none⟩=some (.int .u8 (codec:Int))->(convert 41 9 (.slice (some ⟨g,0,none⟩) 1 1)).run Tryz.prog w=.ok (.string (str [UInt8.ofNat codec])) w:=fun w g h=>by
  have:=Aj3 (P:=Tryz.prog) 41 9 5 Tryz.underlying41 Tryz.underlying5 Tryz.underlying9 w g (codec:Int) 1 h
  rw[Int.toNat_natCast] at this
  exact this
 have Bq:=Hd By
 have Ae:=Hd (show ∀w:World,(convert 41 9 (.slice (some ⟨w.heap.size,0,none⟩) 1 1)).run Tryz.prog (w.alloc (.cells #[.int .u8 (codec:Int)] 5))=.ok (.string (str [UInt8.ofNat codec])) (w.alloc (.cells #[.int .u8 (codec:Int)] 5)) from fun w=>By _ _ (by simp))
 have Ay:=Hd (show ∀w:World,(convert 41 9 (.slice (some ⟨w.heap.size,0,none⟩) 1 1)).run Tryz.prog (w.alloc (.cells #[.int .u8 (codec:Int)] 5)).drew=.ok (.string (str [UInt8.ofNat codec])) (w.alloc (.cells #[.int .u8 (codec:Int)] 5)).drew from fun w=>By _ _ (Ar3 w _ _))
 clear hr hv Ao h1 h4 By hF
 go_enter Tryz.func95,Tryz.ntmps95
 go_wp2
 go_loopw[7,8,14] (fun sv nv i wr=>∃(j:Nat),i=.int .i64 j/\j<=l.length/\OwnV Value.bool 4 wr (W.heap.size+1) nv (Ae3 (l.take j))/\OwnL 49 wr (W.heap.size+1) sv (Ab9 (l.take j)) /\
  Below (W.heap.size+1) (W.alloc (.cells #[.string nm,.int .i64 ty,.int .i64 sc,.bool nu] 62)) wr) (fun _ _ i _=>l.length-(intOf i).toNat)
 case atStart=>exact⟨0,rfl,Nat.zero_le _,OwnV.nil _ _ _ _,OwnL.nil _ _ _,Q2 _ _⟩
 case round=>
  obtain⟨j,rfl,hj,Bf,Bt,Ac⟩:=hrel
  have Be:=Ac.size
  rw[Bh.out] at Be
  by_cases hlt:j<l.length
  ·have Cl:l[j]?=some l[j]:=Q7 hlt
   obtain⟨ad,rfl,_,q0,q1,q2⟩:=(HR.out.below (Ac.mono (by rw[Bh.out];exact Q1 _))).at Cl
   have HJ:=Hd Cl;clear Cl
   generalize l[j]=X at q0 q1 q2 HJ
   obtain⟨xb,xn,xs⟩:=X
   simp only at q0 q1 q2
   have De:=Hd (Db6 HJ.out)
   have Dq:=Hd (Dk6 HJ.out)
   have Ei:=Ao0 (l.take j)
   have El:=Bm3 hj
   have Eb:(l.take j).length<=4096:=by rw[List.length_take];omega
   generalize Ab9 (l.take j)=m at *
   generalize Ae3 (l.take j)=nl at *
   have Dr:=OwnV.ne' Bf (Q1 _)
   have Ch:=Hd Dr
   have Bz:=Hd ((Bf.alloc (.cells #[.bool xb,.int .i64 xn,.string xs] 49)).alloc (.cells #[.bool xb] 4))
   have Ca:=Hd ((Bt.alloc (.cells #[.bool xb,.int .i64 xn,.string xs] 49)).alloc (.cells #[.bool xb] 4))
   have Eg:=Hd (own_apart (show 4≠49 by decide) Bf Bt)
   have Bj:=Hd ((Ac.alloc Be (.cells #[.bool xb,.int .i64 xn,.string xs] 49)).alloc (by simp;omega) (.cells #[.bool xb] 4))
   have Dc:=Hd (show((wr.alloc (.cells #[.bool xb,.int .i64 xn,.string xs] 49)).alloc (.cells #[.bool xb] 4)).heap.size=wr.heap.size+1+1 by simp)
   have HX:=Hd (show RdV Value.bool ((wr.alloc (.cells #[.bool xb,.int .i64 xn,.string xs] 49)).alloc (.cells #[.bool xb] 4)) (wr.heap.size+1+1) (.slice (some ⟨wr.heap.size+1,0,none⟩) 1 1) [xb] by
    have h:=RdV.one Value.bool (wr.alloc (.cells #[.bool xb,.int .i64 xn,.string xs] 49)) xb 1 4 (by decide) (by decide)
    rw[show(wr.alloc (.cells #[.bool xb,.int .i64 xn,.string xs] 49)).heap.size=wr.heap.size+1 from by simp] at h
    exact h)
   have Ce:=Hd (show nl.length+[xb].length<=maxLen by unfold maxLen;simp only[Q6,Q8];omega)
   have Dm:=Hd (show(nl.length+[xb].length)*1<=140737488355328 by simp only[Q6,Q8];omega)
   have Bm:=Hd (show W.heap.size+1<=((wr.alloc (.cells #[.bool xb,.int .i64 xn,.string xs] 49)).alloc (.cells #[.bool xb] 4)).heap.size by rw[Dc.out];omega)
   have Bo:((wr.alloc (.cells #[.bool xb,.int .i64 xn,.string xs] 49)).alloc (.cells #[.bool xb] 4)).cell? ⟨wr.heap.size,0,none⟩=some (.bool xb):=by simp
   have Bw:((wr.alloc (.cells #[.bool xb,.int .i64 xn,.string xs] 49)).alloc (.cells #[.bool xb] 4)).cell? ⟨wr.heap.size,1,none⟩=some (.int .i64 xn):=by simp
   have Bv:((wr.alloc (.cells #[.bool xb,.int .i64 xn,.string xs] 49)).alloc (.cells #[.bool xb] 4)).cell? ⟨wr.heap.size,2,none⟩=some (.string xs):=by simp
   have Dl:=Hd Bo;have HC1:=Hd Bw;have HC2:=Hd Bv
   clear Bf Bt Dr Bo Bw Bv
   go_wp2_with(at_builtin;refine Ad0 (f:=Value.bool) (fun _=>rfl) (.bool false) rfl rfl _ _ 159 rfl (W.heap.size+1) 4 1 Tryz.underlying159 Tryz.infBool _ nl rfl Bz.out _ _ [xb] rfl HX.out Ce.out Dm.out Bm.out ?_)
   intro v' w' Ak Da Bx
   have Ah:=Ca.out.keep Bx Eg.out
   have Al:wr.heap.size<((wr.alloc (.cells #[.bool xb,.int .i64 xn,.string xs] 49)).alloc (.cells #[.bool xb] 4)).heap.size:=by rw[Dc.out];omega
   have d0:=Ba9 Bx Al Ch.out Dl.out
   have d1:=Ba9 Bx Al Ch.out HC1.out
   have d2:=Ba9 Bx Al Ch.out HC2.out
   have Ab:=Bj.out.trans Da
   have Bn:=Ab.size
   rw[Bh.out] at Bn
   clear Da Bx Al Bz Ca Bj HX Ce Dm Bm Dl HC1 HC2 Ac
   cases xb
   ·have Bz:=Hd (Ak.alloc (.cells #[.bool false,.int .i64 xn,.string xs] 49))
    have Ca:=Hd (Ah.alloc (.cells #[.bool false,.int .i64 xn,.string xs] 49))
    have Cy:=Hd (Db1 (show 4≠49 by decide) Ak Ah)
    have Bj:=Hd (Ab.alloc Bn (.cells #[.bool false,.int .i64 xn,.string xs] 49))
    have Ed:=Hd (RdL.lit w' [⟨false,xn,xs⟩] 1 49 (Q1 1) (by decide))
    have Ce:=Hd (show m.length+[(⟨false,xn,xs⟩:Vl)].length<=1000000 by simp only[Q6,Q8];omega)
    have Bm:=Hd Bj.out.size
    rw[Bh.out] at Bm
    clear Ak Ah Ab
    go_wp2_with(at_builtin;refine Cm6 rfl _ _ 63 rfl (W.heap.size+1) 49 Tryz.underlying63 Tryz.infVal _ m rfl Ca.out _ _ [⟨false,xn,xs⟩] rfl Ed.out Ce.out Bm.out ?_)
    intro v3 w3 Cq Dw Dv
    have Cm:=OwnV.keepG Bz.out Dv Cy.out
    go_wp2_with fail
    go_roundw
    case rel=>exact⟨j+1,by go_num,hlt,by rw[De.out];exact Cm,by rw[Dq.out];exact Cq,Bj.out.trans Dw⟩
    case measure=>simp[intOf]<;>omega
   ·go_wp2_with fail
    go_roundw
    case rel=>exact⟨j+1,by go_num,hlt,by rw[De.out];exact Ak,by rw[Dq.out];exact Ah,Ab⟩
    case measure=>simp[intOf]<;>omega
  ·have HT:=Hd (show l.take j=l from List.take_of_length_le (by omega))
   have Cw:=Bf.read
   have Cd:=Bt.read
   rw[HT.out] at Cw Cd
   obtain⟨A1,d1,_,rfl,rfl,Ef,Dx⟩:=Cd.bds
   have Dk:=Hd Cw;have HRS:=Hd Cd;have HBW:=Hd Ac
   clear Bf Bt Cw Cd Ac
   generalize hk:l.length-(Ab9 l).length=k at *
   generalize hz:(Ab9 l).length=z at *
   generalize hn:l.length=n at *
   generalize Em:Av6 ty (codec:Int) (Ab9 l)=PB at *
   generalize Ej:bmp (Ae3 l)=BM at *
   obtain⟨Ct,Ba,As,Bd,Ar,Aw,Aq⟩:=gb_facts hk Bg hl
   obtain⟨Dj,Dg,Di⟩:=hd_len (c:=UInt8.ofNat codec) Db Dp
   have Cb:=fun w=>Ah7 (P:=Tryz.prog) [UInt8.ofNat codec] (Aa4 n) Dj w
   have Bk:=fun w=>Ah7 (P:=Tryz.prog) ([UInt8.ofNat codec]++Aa4 n) (Aa4 k) Dg w
   obtain⟨H,hH⟩:∃H,[UInt8.ofNat codec]++Aa4 n++Aa4 k=H:=⟨_,rfl⟩
   have Cu:H.length<=21:=by rw[←hH];exact Di
   clear Dj Dg Di
   rw[hH] at Bk Aa
   obtain⟨c1,Au⟩:∃c1,str [UInt8.ofNat codec]=c1:=⟨_,rfl⟩
   obtain⟨n1,Cp⟩:∃n1,str (Aa4 n)=n1:=⟨_,rfl⟩
   obtain⟨k1,Cg⟩:∃k1,str (Aa4 k)=k1:=⟨_,rfl⟩
   obtain⟨c2,Bc⟩:∃c2,str ([UInt8.ofNat codec]++Aa4 n)=c2:=⟨_,rfl⟩
   rw[Au,Cp,Bc] at Cb
   rw[Bc,Cg] at Bk
   simp only[Au] at Bq Ae Ay
   simp only[Cp] at Ck
   simp only[Cg] at Cx
   have Dt:=Hd hk;have HZZ:=Hd hz;have HNN:=Hd hn
   clear hk hz hn Au Cp Cg Bc hH
   go_upto_region 10 with fail
   have Ap:=Hd (And.intro Ci (And.intro Cf (And.intro Aa (And.intro Cn (And.intro hl (And.intro Bg (And.intro Be (And.intro Cu (And.intro Ba hj)))))))))
   clear Ci Cf Aa Cn hl Bg Be Cu Ba hj hlt Db Dp Eh Du Ef Dx
   have Dd:=Hd Cb;have HA2:=Hd Bk
   have Df:=Hd (And.intro Ct (And.intro As (And.intro Bd (And.intro Ar (And.intro Aw (And.intro Aq w8))))))
   clear Cb Bk Ct As Bd Ar Aw Aq w8
   go_cut [11] from 31 to 47 (fun s w'=>s=.string (str H)/\Below wr.heap.size wr w')
   case first=>
    clear Ax Dn An Af HR Dk HRS HBW Cc Bh Cs Dt HZZ HNN Ap HT
    have Cb:=Dd.out;have Bk:=HA2.out
    obtain⟨Ct,As,Bd,Ar,Aw,Aq,w8⟩:=Df.out
    have Ea:=Ae.out wr
    have Ee:=Ay.out wr
    have Cv:=fun w:World=>Ar3 w (.int .u8 (codec:Int)) 5
    have Cj:=Cv wr
    have Dh:((wr.alloc (.cells #[.int .u8 (codec:Int)] 5)).drew).cell? ⟨wr.heap.size,0,none⟩=some (.int .u8 (codec:Int)):=Cj
    have Dy:=Hd Cv;have HCW:=Hd Cj;have HCD:=Hd Dh
    clear Cv Cj Dh
    go_region_with(first
     | (go_at_call 48;(with_reducible refine(Ck _).out.mono ?_);rintro e w5 ⟨rfl,Aj⟩;have hB5:Below wr.heap.size wr w5:=Aa0 (by go_grown) Aj;clear Ea Ee;(first | (with_reducible have hk0:=Below.cellOf Aj HCD.out;have hq0:=Bq.out w5 wr.heap.size hk0;have HK0:=Hd hk0;clear hk0) | (have hq0:=Ae.out w5));clear Aj)
     | (go_at_call 48;(with_reducible refine(Cx _).out.mono ?_);rintro e w6 ⟨rfl,Ai⟩;have hB6:Below wr.heap.size wr w6:=(by(first | (with_reducible exact Aa0 hB5 Ai) | (with_reducible exact Aa0 (hB5.alloc hB5.size _) Ai)));clear hq0;(first | (with_reducible have hq1:=Bq.out w6 wr.heap.size (Below.cellOf Ai HK0.out)) | (with_reducible have hq1:=Bq.out w6 w5.heap.size (Below.cellOf Ai (Dy.out w5))) | (have hq1:=Ae.out w6));clear Ai hB5))
    all_goals
     go_wp2_with fail
     go_meet
     case rel=>
      first
       | exact⟨rfl,hB6⟩
       | exact⟨rfl,hB6.alloc hB6.size _⟩
   case rest=>
    obtain⟨rfl,Aj⟩:=hcut
    clear Ck Cx Ae Ay Bq Dd HA2 Df
    obtain⟨Ci,Cf,Aa,Cn,hl,Bg,Be,Cu,Ba,hj⟩:=Ap.out
    clear Ap
    have Bb:=Dk.out.step Aj
    have Ag:=HRS.out.step Aj
    have Ad:Below (W.heap.size+1) (W.alloc (.cells #[.string nm,.int .i64 ty,.int .i64 sc,.bool nu] 62)) wc:=HBW.out.trans (Aj.mono Be)
    have Bl:=Ad.size
    rw[Bh.out] at Bl
    have Dz:(Ad8 (Ap1 (bodyB ty codec l))).length=4:=rfl
    have Ek:=fun w=>Ah7 (P:=Tryz.prog) (bodyB ty codec l) (Ad8 (Ap1 (bodyB ty codec l))) (by omega) w
    have Br:=Hd (show Aa7 ty codec l=bodyB ty codec l++Ad8 (Ap1 (bodyB ty codec l)) from rfl)
    clear Dz
    by_cases hzn:z<n
    ·rw[if_pos hzn] at Aa
     have Ds:decide ((z:Int)<(n:Int))=true:=Q4 (by omega)
     have Co:decide (z<n)=true:=Q4 hzn
     have Ec:=fun w=>Ah7 (P:=Tryz.prog) H BM.data.toList (by rw[Aa1];omega) w
     rw[Aw5] at Ec
     have Cr:=fun w=>Ah7 (P:=Tryz.prog) (H++BM.data.toList) PB (by rw[Q5,Aa1];omega) w
     rw[←Aa] at Cr
     generalize bodyB ty codec l=BD at *
     clear hzn Aa
     go_wp2_with fail
     (with_reducible refine(Dn _ _ Bb).out.mono ?_);rintro e w6 ⟨rfl,Ai⟩
     have Bs:=Ag.step Ai
     have Az:=Ad.trans (Ai.mono Bl)
     obtain⟨v0,v1,v2,v3⟩:=Cs.out.below Az (Nat.lt_succ_self _)
     go_wp2_with fail
     (with_reducible refine(Ax _ _ Bs).out.mono ?_);rintro e w7 ⟨rfl,Bi⟩
     go_wp2_with fail
     (with_reducible refine(An _).out.mono ?_);rintro e w8 ⟨rfl,Bu⟩
     go_wp2_with fail
     (with_reducible refine(Af _).out.mono ?_);rintro e w9 ⟨rfl,Bp⟩
     have hB:=(Cc.out.trans (Az.mono (Nat.le_succ _)))
     have Cz:=Aa0 (Aa0 (Aa0 hB Bi) Bu) Bp
     clear Bb Ag Bs Ad Az v0 v1 v2 v3 Aj Ai Bi Bu Bp hB
     go_wp2
     go_ret
     exact RetB.mk (by rw[Br.out];rfl) Cz
    ·rw[if_neg hzn,List.append_nil] at Aa
     have Ds:decide ((z:Int)<(n:Int))=false:=Q3 (by omega)
     have Co:decide (z<n)=false:=Q3 hzn
     have Cr:=fun w=>Ah7 (P:=Tryz.prog) H PB (by omega) w
     rw[←Aa] at Cr
     generalize bodyB ty codec l=BD at *
     clear hzn Aa
     obtain⟨v0,v1,v2,v3⟩:=Cs.out.below Ad (Nat.lt_succ_self _)
     go_wp2_with fail
     (with_reducible refine(Ax _ _ Ag).out.mono ?_);rintro e w7 ⟨rfl,Bi⟩
     go_wp2_with fail
     (with_reducible refine(An _).out.mono ?_);rintro e w8 ⟨rfl,Bu⟩
     go_wp2_with fail
     (with_reducible refine(Af _).out.mono ?_);rintro e w9 ⟨rfl,Bp⟩
     have hB:=(Cc.out.trans (Ad.mono (Nat.le_succ _)))
     have Cz:=Aa0 (Aa0 (Aa0 hB Bi) Bu) Bp
     clear Bb Ag Ad v0 v1 v2 v3 Aj Bi Bu Bp hB
     go_wp2
     go_ret
     exact RetB.mk (by rw[Br.out];rfl) Cz
end Go.P
namespace Go.CK
open RowKit VB VarM BP VS NU VL
def An7(typ:Int)(l:List Vl):Nat->List UInt8
 | 0=>[]
 | k+1=>if uses typ ((k+1:Nat):Int)=true/\(An7 typ l k=[]\/(Aa7 typ ((k+1:Nat):Int) l).length<(An7 typ l k).length) then Aa7 typ ((k+1:Nat):Int) l else An7 typ l k
theorem bstB_4(typ:Int)(l:List Vl):An7 typ l 4=Bb5 typ l:=by
 have n1:∀k:Int,Aa7 typ k l≠[]:=fun k e=>by have:=Cd7 typ k l;rw[e] at this;simp at this
 have e1:An7 typ l 1=Aa7 typ 1 l:=by
  unfold An7
  rw[if_pos]
  ·rfl
  ·refine⟨?_,.inl rfl⟩
   by_cases ht:typ=3
   ·exact(Cf3 ht).1
   ·exact(Br7 ht).1
 unfold Bb5
 by_cases ht:typ=3
 ·subst ht
  rw[if_pos rfl]
  have e2:An7 3 l 2=Aa7 3 1 l:=by
   rw[An7,if_neg (fun h=>by have:=h.1;simp[uses] at this),e1]
  have e3:An7 3 l 3=if(Aa7 3 3 l).length<(Aa7 3 1 l).length then Aa7 3 3 l else Aa7 3 1 l:=by
   rw[An7,e2]
   by_cases h:(Aa7 3 3 l).length<(Aa7 3 1 l).length
   ·rw[if_pos h,if_pos ⟨rfl,.inr h⟩];rfl
   ·rw[if_neg h,if_neg (fun hh=>hh.2.elim (n1 1) h)]
  rw[An7,if_neg (fun h=>by have:=h.1;simp[uses] at this),e3]
 ·rw[if_neg ht]
  have hu:=Br7 ht
  have e2:An7 typ l 2=if(Aa7 typ 2 l).length<(Aa7 typ 1 l).length then Aa7 typ 2 l else Aa7 typ 1 l:=by
   rw[An7,e1]
   by_cases h:(Aa7 typ 2 l).length<(Aa7 typ 1 l).length
   ·rw[if_pos h,if_pos ⟨hu.2.1,.inr h⟩];rfl
   ·rw[if_neg h,if_neg (fun hh=>hh.2.elim (n1 1) h)]
  have e3:An7 typ l 3=An7 typ l 2:=by
   rw[An7,if_neg]
   rintro⟨h,_⟩
   unfold uses at h
   rw[if_neg ht] at h
   simp at h
  rw[An7,e3,e2]
  by_cases h:(Aa7 typ 2 l).length<(Aa7 typ 1 l).length
  ·rw[if_pos h,if_pos h]
   by_cases h4:(Aa7 typ 4 l).length<(Aa7 typ 2 l).length
   ·rw[if_pos h4,if_pos ⟨hu.2.2,.inr h4⟩];rfl
   ·rw[if_neg h4,if_neg (fun hh=>hh.2.elim (n1 2) h4)]
  ·rw[if_neg h,if_neg h]
   by_cases h4:(Aa7 typ 4 l).length<(Aa7 typ 1 l).length
   ·rw[if_pos h4,if_pos ⟨hu.2.2,.inr h4⟩];rfl
   ·rw[if_neg h4,if_neg (fun hh=>hh.2.elim (n1 1) h4)]
theorem Fg0{typ:Int}{l:List Vl}{k:Nat}(h:uses typ ((k+1:Nat):Int)=false):An7 typ l (k+1)=An7 typ l k:=by rw[An7,if_neg (fun hh=>by rw[h] at hh;exact absurd hh.1 (by decide))]
theorem Ep3{typ:Int}{l:List Vl}{k:Nat}(h:uses typ ((k+1:Nat):Int)=true)(hb:An7 typ l k=[]\/(Aa7 typ ((k+1:Nat):Int) l).length<(An7 typ l k).length):An7 typ l (k+1)=Aa7 typ ((k+1:Nat):Int) l:=by rw[An7,if_pos ⟨h,hb⟩]
theorem Ep4{typ:Int}{l:List Vl}{k:Nat}(h0:An7 typ l k≠[])(hb:¬(Aa7 typ ((k+1:Nat):Int) l).length<(An7 typ l k).length):An7 typ l (k+1)=An7 typ l k:=by rw[An7,if_neg (fun hh=>hh.2.elim h0 hb)]
theorem Cy4{b:List UInt8}(h:b=[]):((str b).toList==(⟨#[]⟩:ByteArray).toList)=true:=Az8 (by rw[h];rfl)
theorem Ex0{b:List UInt8}(h:b=[]):(str b).toList.isEmpty=true:=by rw[ByteArray.toList_eq,h];rfl
theorem Dj7{b:List UInt8}(h:b≠[]):(str b).toList.isEmpty=false:=by
 rw[ByteArray.toList_eq]
 cases b with
 | nil=>exact absurd rfl h
 | cons _ _=>rfl
theorem Cf7{b:List UInt8}(h:b≠[]):((str b).toList==(⟨#[]⟩:ByteArray).toList)=false:=Au2 (fun e=>h (Cf8 (b:=[]) e))
end Go.CK
namespace Go.P
open RowKit VB VarM BP RL VS VL DI CK NU
section
variable (nm:ByteArray) (ty sc:Int) (nu:Bool) (v:Value) (l:List Vl) (W:World)
theorem Dn0(hT:okT ty=false):Calls Tryz.prog 47 #[(.agg #[.string nm,.int .i64 ty,.int .i64 sc,.bool nu]),v] W (RetB (.tuple #[.string ⟨#[]⟩,.int .i64 1]) W):=by
 have HT:=fun w=>Hd (An0 ty w)
 rw[hT] at HT
 have Aa:=Hd ((Q2 W.heap.size W).alloc (Q1 _) (.cells #[.string nm,.int .i64 ty,.int .i64 sc,.bool nu] 62))
 clear hT
 go_enter Tryz.func47,Tryz.ntmps47
 go_wp2_with fail
 (with_reducible refine(HT _).out.mono ?_);rintro e w1 ⟨rfl,rfl⟩
 go_wp2
 go_ret2
 exact RetB.mk rfl Aa.out
theorem Dn1(hT:okT ty=true)(hr:RdL W W.heap.size v l)(hl:4096<l.length):Calls Tryz.prog 47 #[(.agg #[.string nm,.int .i64 ty,.int .i64 sc,.bool nu]),v] W (RetB (.tuple #[.string ⟨#[]⟩,.int .i64 7]) W):=by
 obtain⟨A,c,_,rfl,rfl,Ac,Ab⟩:=hr.bds
 have HT:=fun w=>Hd (An0 ty w)
 rw[hT] at HT
 have Aa:=Hd ((Q2 W.heap.size W).alloc (Q1 _) (.cells #[.string nm,.int .i64 ty,.int .i64 sc,.bool nu] 62))
 have hd:decide ((4096:Int)<(l.length:Int))=true:=Q4 (by omega)
 have Ad:decide (4096<l.length)=true:=Q4 (by omega)
 clear hT hr
 go_enter Tryz.func47,Tryz.ntmps47
 go_wp2_with fail
 (with_reducible refine(HT _).out.mono ?_);rintro e w1 ⟨rfl,rfl⟩
 go_wp2
 go_ret2
 exact RetB.mk rfl Aa.out
theorem Ey2 (hT:okT ty=true) (hr:RdL W W.heap.size v l) (hl:l.length<=4096) (hb:∀x∈l,-9223372036854775808<=x.n/\x.n<=9223372036854775807) (R:ByteArray) (E:Nat)
   (Ai:∀e,Ak1 ty nu l=e->e≠0->R=⟨#[]⟩/\E=e) (Af:Ak1 ty nu l=0->R=str (Bb5 ty l)/\E=0):
   Calls Tryz.prog 47 #[(.agg #[.string nm,.int .i64 ty,.int .i64 sc,.bool nu]),v] W (RetB (.tuple #[.string R,.int .i64 (E:Int)]) W):=by
 obtain⟨A,c,_,rfl,rfl,Bv,Br⟩:=hr.bds
 have HT:=fun w=>Hd (An0 ty w)
 rw[hT] at HT
 have As:=Hd ((Q2 W.heap.size W).alloc (Q1 _) (.cells #[.string nm,.int .i64 ty,.int .i64 sc,.bool nu] 62))
 have Ao:=Hd (show(W.alloc (.cells #[.string nm,.int .i64 ty,.int .i64 sc,.bool nu] 62)).heap.size=W.heap.size+1 from by simp)
 have HV:=Hd (Var4.new W (.string nm) (.int .i64 ty) (.int .i64 sc) (.bool nu) 62)
 have HR:=Hd (hr.step As.out)
 have HH:=fun i x=>Hd (Bp2 (typ:=ty) (nu:=nu) (l:=l) (i:=i) (x:=x))
 have HM:=Hd (Ao8 (typ:=ty) (nu:=nu) (l:=l))
 have Bk:=Hd (fun h=>ok_of (nu:=nu) hT h hb)
 have Bc:=fun(k:Nat)w h1 h4 hr hv=>Hd (Df3 nm ty sc nu k (.slice A l.length c) l w h1 h4 hr hl hv)
 have HU:=fun k w=>Hd (Ee0 ty k w)
 have Ap:=Hd Ai;have HGOOD:=Hd Af
 clear hT hr hb Ai Af
 go_enter Tryz.func47,Tryz.ntmps47
 go_wp2_with fail
 (with_reducible refine(HT _).out.mono ?_);rintro e w1 ⟨rfl,rfl⟩
 go_wp2_with fail
 go_loopw[4,5,7,8,21] (fun r1 r2 _ _ i wr=>∃j:Nat,r1=.string ⟨#[]⟩/\r2=.int .i64 0/\i=.int .i64 j/\j<=l.length/\Below (W.heap.size+1) (W.alloc (.cells #[.string nm,.int .i64 ty,.int .i64 sc,.bool nu] 62)) wr/\∀m y,m<j->l[m]?=some y->Ae6 ty nu y=0) (fun _ _ _ _ i _=>l.length-(intOf i).toNat)
 case atStart=>exact⟨0,rfl,rfl,rfl,Nat.zero_le _,Q2 _ _,fun m y h=>absurd h (Nat.not_lt_zero _)⟩
 case round=>
  obtain⟨j,rfl,rfl,rfl,hj,Aa,hf⟩:=hrel
  have HF:=Hd hf;clear hf
  have Ag:=Aa.size
  rw[Ao.out] at Ag
  by_cases hlt:j<l.length
  ·have Au:l[j]?=some l[j]:=Q7 hlt
   obtain⟨ad,rfl,_,q0,q1,q2⟩:=(HR.out.below (Aa.mono (by rw[Ao.out];exact Q1 _))).at Au
   have HJ:=Hd Au;clear Au
   generalize l[j]=X at q0 q1 q2 HJ
   obtain⟨xb,xn,xs⟩:=X
   simp only at q0 q1 q2
   obtain⟨v0,v1,v2,v3⟩:=HV.out.below (Aa.alloc Ag (.cells #[.bool xb,.int .i64 xn,.string xs] 49)) (Nat.lt_succ_self _)
   have Bi:=Hd (Aa.alloc Ag (.cells #[.bool xb,.int .i64 xn,.string xs] 49))
   have Bl:=Hd (show(wr.alloc (.cells #[.bool xb,.int .i64 xn,.string xs] 49)).heap.size=wr.heap.size+1 by simp)
   go_wp2_with fail
   (with_reducible refine(Cp6 nm ty sc nu xb xn xs _).mono ?_);rintro e w2 ⟨rfl,Aw⟩
   have Bb:=Bi.out.trans (Aw.mono (by rw[Bl.out];omega))
   obtain⟨C,hC⟩:∃C,Ae6 ty nu ⟨xb,xn,xs⟩=C:=⟨_,rfl⟩
   have Bg:chk ty nu xb xn xs=C:=hC
   rw[Bg]
   have HC:=Hd hC
   clear hC Bg Aw Bi q0 q1 q2 v0 v1 v2 v3
   by_cases h0:C=0
   ·subst h0
    have HN:=Hd (show ∀m y,m<j+1->l[m]?=some y->Ae6 ty nu y=0 from fun m y hm hy=>by
     by_cases e:m=j
     ·subst e;rw[HJ.out] at hy;obtain rfl:=Option.some.inj hy;exact HC.out
     ·exact HF.out m y (by omega) hy)
    go_wp2_with fail
    go_roundw
    case rel=>exact⟨j+1,rfl,rfl,by go_num,hlt,Bb,HN.out⟩
    case measure=>simp[intOf]<;>omega
   ·have hd:((C:Int)!=0)=true:=Ab5 (by omega)
    have HE:=Hd (Ap.out C (((HH j _).out HJ.out (by rw[HC.out];exact h0) (fun m y hm hy=>HF.out m y hm hy)).trans HC.out) h0)
    clear h0 HH HM HF
    go_wp2_with fail
    go_ret2
    exact RetB.mk (by rw[HE.out.1,HE.out.2];rfl) (As.out.trans (Bb.mono (Nat.le_succ _)))
  ·have Ah:∀x∈l,Ae6 ty nu x=0:=fun x hx=>by
     obtain⟨m,hm,rfl⟩:=List.mem_iff_getElem.1 hx
     exact HF.out m _ (by omega) (Q7 hm)
   have HG:=Hd (HGOOD.out (HM.out Ah))
   have Bh:=Hd (Bk.out Ah)
   have Bd:=Hd (bstB_4 ty l)
   clear HH HM HF Ap HGOOD Bk Ah
   go_wp2_with fail
   go_loopw[9,10] (fun sv kv w2=>∃k c:Nat,kv=.int .i64 (c:Int)/\c=k+1/\k<=4/\sv=.string (str (An7 ty l k))/\Below (W.heap.size+1) (W.alloc (.cells #[.string nm,.int .i64 ty,.int .i64 sc,.bool nu] 62)) w2) (fun _ kv _=>5-(intOf kv).toNat)
   case atStart=>exact⟨0,1,rfl,rfl,by omega,rfl,Aa⟩
   case round=>
    clear Aa Ag
    obtain⟨k,c5,rfl,Al,hk,rfl,Aa⟩:=hrel
    have Ag:=Aa.size
    rw[Ao.out] at Ag
    by_cases hk4:k<4
    ·have Ay:=Hd (show uses ty (c5:Int)=false->An7 ty l c5=An7 ty l k from by rw[Al];exact Fg0)
     have Aj:=Hd (show uses ty (c5:Int)=true->(An7 ty l k=[]\/(Aa7 ty (c5:Int) l).length<(An7 ty l k).length)->An7 ty l c5=Aa7 ty (c5:Int) l from by rw[Al];exact Ep3)
     have Ae:=Hd (show An7 ty l k≠[]->¬(Aa7 ty (c5:Int) l).length<(An7 ty l k).length->An7 ty l c5=An7 ty l k from by rw[Al];exact Ep4)
     have An:=fun w=>Hd (HU (c5:Int) w).out
     have Be:=fun w hr=>Hd (Bc c5 w (by omega) (by omega) hr Bh.out).out
     have Bq:=Cw5 (typ:=ty) (k:=c5) hl Bh.out
     have Bu:=Hd Al
     have Bs:decide ((c5:Int)<=4)=true:=Q4 (by omega)
     have Bt:wrap64 ((c5:Int)+1)=(c5:Int)+1:=by unfold wrap64;omega
     have Ad:c5<=4:=by omega
     clear Al
     generalize Ax:An7 ty l c5=S1 at *
     have Aq:=Hd Ax
     clear Ax
     generalize An7 ty l k=S0 at *
     generalize Aa7 ty (c5:Int) l=T at *
     clear Bc
     obtain⟨v0,v1,v2,v3⟩:=HV.out.below Aa (Nat.lt_succ_self _)
     have Az:=Aa3 S0
     have Bf:=Aa3 T
     cases hu:uses ty (c5:Int)
     ·rw[hu] at An
      have HN:=Hd (Ay.out hu)
      clear hu
      go_wp2_with fail
      (with_reducible refine(An _).out.mono ?_);rintro e w5 ⟨rfl,Ar⟩
      go_wp2_with fail
      go_roundw
      case rel=>exact⟨c5,c5+1,by go_num,rfl,Ad,by rw[Aq.out,HN.out],Aa.trans (Ar.mono Ag)⟩
      case measure=>simp[intOf]<;>omega
     ·rw[hu] at An
      have HY:=Hd (Aj.out hu)
      clear hu Ay Aj
      go_wp2_with fail
      (with_reducible refine(An _).out.mono ?_);rintro e w5 ⟨rfl,Ar⟩
      have Ab:=Aa.trans (Ar.mono Ag)
      have Bj:=HR.out.step (Ab.mono (by rw[Ao.out];exact Q1 _))
      obtain⟨v0,v1,v2,v3⟩:=HV.out.below Ab (Nat.lt_succ_self _)
      have Ak:=Ab.size
      rw[Ao.out] at Ak
      go_wp2_with fail
      (with_reducible refine(Be _ Bj).out.mono ?_);rintro e w6 ⟨rfl,Ba⟩
      have Ac:=Ab.trans (Ba.mono Ak)
      clear Bj Ab Aa Ar Ba v0 v1 v2 v3 An Be
      by_cases h0:S0=[]
      ·have HE:=Hd (HY.out (.inl h0))
       have e0:=Cy4 h0
       have Bp:=Ex0 h0
       clear h0 HY Ae
       go_wp2_with fail
       go_roundw
       case rel=>exact⟨c5,c5+1,by go_num,rfl,Ad,by rw[Aq.out,HE.out],Ac⟩
       case measure=>simp[intOf]<;>omega
      ·have e0:=Cf7 h0
       have Bp:=Dj7 h0
       by_cases hlt2:T.length<S0.length
       ·have HE:=Hd (HY.out (.inr hlt2))
        have Bo:decide ((str T).size<(str S0).size)=true:=Q4 (by omega)
        have Bn:decide (((str T).size:Int)<((str S0).size:Int))=true:=Q4 (by omega)
        clear h0 HY Ae hlt2 Az Bf
        go_wp2_with fail
        go_roundw
        case rel=>exact⟨c5,c5+1,by go_num,rfl,Ad,by rw[Aq.out,HE.out],Ac⟩
        case measure=>simp[intOf]<;>omega
       ·have HE:=Hd (Ae.out h0 hlt2)
        have Bo:decide ((str T).size<(str S0).size)=false:=Q3 (by omega)
        have Bn:decide (((str T).size:Int)<((str S0).size:Int))=false:=Q3 (by omega)
        clear h0 HY Ae hlt2 Az Bf
        go_wp2_with fail
        go_roundw
        case rel=>exact⟨c5,c5+1,by go_num,rfl,Ad,by rw[Aq.out,HE.out],Ac⟩
        case measure=>simp[intOf]<;>omega
    ·have Bm:k=4:=by omega
     subst Bm
     rw[Bd.out]
     clear Bd
     generalize str (Bb5 ty l)=S at *
     go_wp2
     go_ret2
     exact RetB.mk (by rw[HG.out.1,HG.out.2];rfl) (As.out.trans (Aa.mono (Nat.le_succ _)))
end
end Go.P

namespace Go.CK
open RowKit VB VS VL KV
end Go.CK
namespace Go.P
open RowKit VB VarM BP RL VS VL DI CK NU KV
end Go.P
namespace Go.CK
open RowKit VB VS VL
def encS(typ:Int)(nu:Bool)(l:List Vl):ByteArray:=if Dd9 typ nu l=0 then str (Bb5 typ l) else⟨#[]⟩
theorem Bv0{typ:Int}{nu:Bool}{l:List Vl}(h:Dd9 typ nu l≠0):encS typ nu l=⟨#[]⟩:=if_neg h
theorem Dw5{typ:Int}{nu:Bool}{l:List Vl}(h:Dd9 typ nu l=0):encS typ nu l=str (Bb5 typ l):=if_pos h
end Go.CK
namespace Go.P
open RowKit VB VarM BP RL VS VL DI CK NU KV ChangeShapes WideShapes ChangeAt
end Go.P
namespace Go.P
open RowKit VB VarM BP RL VS VL DI CK NU KV ChangeShapes WideShapes ChangeAt
theorem Dm9(nm:ByteArray)(ty sc:Int)(nu:Bool)(v:Value)(l:List Vl)(W:World)(hr:RdL W W.heap.size v l)(hb:∀x∈l,-9223372036854775808<=x.n/\x.n<=9223372036854775807):
   Calls Tryz.prog 47 #[(.agg #[.string nm,.int .i64 ty,.int .i64 sc,.bool nu]),v] W (RetB (.tuple #[.string (encS ty nu l),.int .i64 (Dd9 ty nu l:Nat)]) W):=by
 cases hT:okT ty with
 | false=>
   have he:=Dw8 (nu:=nu) (l:=l) hT
   rw[Bv0 (by rw[he];decide),he]
   exact Dn0 nm ty sc nu v W hT
 | true=>
   by_cases hl:4096<l.length
   ·have he:=Dx0 (nu:=nu) hT hl
    rw[Bv0 (by rw[he];decide),he]
    exact Dn1 nm ty sc nu v l W hT hr hl
   ·have Aa:l.length<=4096:=by omega
    have he:=Dd8 (nu:=nu) hT Aa
    rw[he]
    refine Ey2 nm ty sc nu v l W hT hr Aa hb _ _ (fun e h1 h0=>⟨Bv0 (by rw[he,h1];exact h0),h1⟩) (fun h=>⟨Dw5 (by rw[he,h]),h⟩)
end Go.P
