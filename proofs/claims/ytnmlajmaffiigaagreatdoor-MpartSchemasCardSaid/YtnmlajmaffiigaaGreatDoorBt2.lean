/- Texts of one part, joined. -/
import Derived.Test.YtnmlajmaffiigaaGreatDoorGb
import Derived.RegionTactic
import Derived.BigQuiet
import Derived.Test.YtnmlajmaffiigaaGreatDoorGa
set_option linter.constructorNameAsVariable false
set_option maxRecDepth 100000
set_option maxHeartbeats 16000000
open Go Go.Proofs Go.Proofs.YtnmlajmaffiigaaGreatDoor Go.P
namespace Go.P
open RowKit VB VL SC
theorem Cd4(cs:List Col)(v:Value)(key:Int)(W:World)(hr:RdC W W.heap.size v cs):
   Calls Tryz.prog 55 #[.agg #[v,.int .i64 key]] W (RetB (.int .i64 (Ad9 cs key:Nat)) W):=by
 have HK:=fun(i:Nat)(w:World)(hb:Below W.heap.size W w)hi=>Hd (Cd5 cs v key i w (hr.step hb) hi)
 have Ac:=Var2.new W v (.int .i64 key) 24
 have hB:Below W.heap.size W (W.alloc (.cells #[v,.int .i64 key] 24)):=(Q2 _ _).alloc (Q1 _) _
 obtain⟨A,c,rfl,hc,hm,Af⟩:=hr
 clear Af
 unfold maxLen at hm
 by_cases h0:cs.length=0
 ·have HE:Hid (Ad9 cs key=1):=Hd (by unfold Ad9;rw[if_pos h0])
  have hd:((cs.length:Int)==0)=true:=Bm4 (by omega)
  clear HK h0
  obtain⟨l0,l1,_,_⟩:=Ac
  go_enter Tryz.func55,Tryz.ntmps55
  go_wp2_with fail
  go_ret
  exact RetB.mk (by rw[HE.out];rfl) hB
 have Ai:((cs.length:Int)==0)=false:=Ab3 (by omega)
 by_cases h12:12<cs.length
 ·have HE:Hid (Ad9 cs key=7):=Hd (by unfold Ad9;rw[if_neg h0,if_pos h12])
  clear HK h0
  obtain⟨l0,l1,_,_⟩:=Ac
  go_enter Tryz.func55,Tryz.ntmps55
  go_wp2_with fail
  go_ret
  exact RetB.mk (by rw[HE.out];rfl) hB
 have HH:=fun j=>Hd (Cw1 (cs:=cs) (key:=key) (j:=j) (by omega))
 have HM:=Hd (Bf3 (cs:=cs) (key:=key) h0 (by omega))
 have HV:=Hd Ac
 obtain⟨l0,l1,_,_⟩:=Ac
 go_enter Tryz.func55,Tryz.ntmps55
 go_wp2_with fail
 clear l0 l1
 go_loopw[2,3,4,16] (fun r _ _ j wr=>∃k:Nat,r=.int .i64 0/\j=.int .i64 k/\k<=cs.length/\Below W.heap.size W wr/\Hid (Var2 wr W.heap.size (.slice A cs.length c) (.int .i64 key))/\Hid (∀m,m<k->Ab4 cs m=0)) (fun _ _ _ j _=>cs.length-(intOf j).toNat)
 case atStart=>exact⟨0,rfl,rfl,Nat.zero_le _,hB,HV,Hd Ak7⟩
 case round=>
  obtain⟨k,rfl,rfl,hk,hB,Ab,HP⟩:=hrel
  by_cases hlt:k<cs.length
  ·obtain⟨l0,l1,_,_⟩:=Ab.out
   have Ae:=Hd (HK k wr hB hlt).out
   have Ad:=fun h=>Hd ((HH k).out hlt HP.out h)
   have HN:=fun h=>Hd (snoc (p:=fun m=>Ab4 cs m=0) (j:=k) HP.out h)
   clear HK HH HM HV HP
   go_wp2_with fail
   refine Ae.out.mono ?_
   rintro e w2 ⟨rfl,hb⟩
   replace hB:=Aa0 hB hb
   have Ag:=Hd (Ab.out.step hb)
   clear Ae Ab l0 l1 hb
   by_cases he:Ab4 cs k=0
   ·have HE:=HN he
    have hd:((Ab4 cs k:Int)!=0)=false:=Ca9 (by omega)
    clear Ad HN he
    generalize Ab4 cs k=E at *
    go_wp2_with fail
    go_roundw
    case rel=>exact⟨k+1,rfl,by go_num,hlt,hB,Ag,HE⟩
    case measure=>simp[intOf]<;>omega
   ·have HE:=Ad he
    have hd:((Ab4 cs k:Int)!=0)=true:=Ab5 (by omega)
    clear Ad HN he
    generalize Ab4 cs k=E at *
    go_wp2_with fail
    go_ret
    exact RetB.mk (by rw[HE.out];rfl) hB
  ·obtain⟨l0,l1,_,_⟩:=Ab.out
   have HE:=Hd (HM.out (fun j hj=>HP.out j (by omega)))
   clear HM HP HK HH HV Ab
   by_cases h1:key<0
   ·have Ah:decide (key<0)=true:=Q4 h1
    have Aa:=Hd (HE.out.trans (if_pos (.inl h1)))
    clear HE
    go_wp2_with fail
    go_ret
    exact RetB.mk (by rw[Aa.out];rfl) hB
   ·have Ah:decide (key<0)=false:=Q3 h1
    by_cases h2:(cs.length:Int)<=key
    ·have Aa:=Hd (HE.out.trans (if_pos (.inr h2)))
     clear HE
     go_wp2_with fail
     go_ret
     exact RetB.mk (by rw[Aa.out];rfl) hB
    ·have Aa:=Hd (HE.out.trans (if_neg (by omega)))
     clear HE
     go_wp2_with fail
     go_ret
     exact RetB.mk (by rw[Aa.out];rfl) hB
theorem Ba4(cs:List Col)(v:Value)(key:Int)(W:World)(hr:RdC W W.heap.size v cs):
   Calls Tryz.prog 34 #[.agg #[v,.int .i64 key]] W (RetB (.int .i64 (Ad9 cs key:Nat)) W):=by
 have As:=Var2.new W v (.int .i64 key) 24
 have Aq:Below W.heap.size W (W.alloc (.cells #[v,.int .i64 key] 24)):=(Q2 _ _).alloc (Q1 _) _
 obtain⟨A,c,rfl,hc,hm,Bc⟩:=hr
 have hX:∀j,j<cs.length->∃ad,A=some ad/\ad.block<W.heap.size/\At4 W ad j (cs.getD j col0):=Bc
 clear Bc
 unfold maxLen at hm
 have HX:=Hd hX;clear hX
 by_cases h0:cs.length=0
 ·have HE:Hid (Ad9 cs key=1):=Hd (by unfold Ad9;rw[if_pos h0])
  have hd:((cs.length:Int)==0)=true:=Bm4 (by omega)
  clear HX h0
  obtain⟨l0,l1,_,_⟩:=As
  go_enter Tryz.func34,Tryz.ntmps34
  go_wp2_with fail
  go_ret
  exact RetB.mk (by rw[HE.out];rfl) Aq
 have Bs:((cs.length:Int)==0)=false:=Ab3 (by omega)
 by_cases h12:12<cs.length
 ·have HE:Hid (Ad9 cs key=7):=Hd (by unfold Ad9;rw[if_neg h0,if_pos h12])
  clear HX h0
  obtain⟨l0,l1,_,_⟩:=As
  go_enter Tryz.func34,Tryz.ntmps34
  go_wp2_with fail
  go_ret
  exact RetB.mk (by rw[HE.out];rfl) Aq
 have HH:=fun j=>Hd (Cw1 (cs:=cs) (key:=key) (j:=j) (by omega))
 have HM:=Hd (Bf3 (cs:=cs) (key:=key) h0 (by omega))
 have HV:=Hd As
 have Bd:=fun s w=>Hd (Dm6 s w)
 have Ba:=fun t w=>Hd (An0 t w)
 obtain⟨l0,l1,_,_⟩:=As
 go_enter Tryz.func34,Tryz.ntmps34
 go_wp2_with fail
 clear l0 l1
 go_loopw[2,3,4,6,18] (fun r _ _ _ j wr=>∃k:Nat,r=.int .i64 0/\j=.int .i64 k/\k<=cs.length/\Below W.heap.size W wr/\Hid (Var2 wr W.heap.size (.slice A cs.length c) (.int .i64 key))/\Hid (∀m,m<k->Ab4 cs m=0)) (fun _ _ _ _ j _=>cs.length-(intOf j).toNat)
 case atStart=>exact⟨0,rfl,rfl,Nat.zero_le _,Aq,HV,Hd Ak7⟩
 case round=>
  clear Aq
  obtain⟨k,rfl,rfl,hk,hB,Al,HP⟩:=hrel
  by_cases hlt:k<cs.length
  ·obtain⟨l0,l1,_,_⟩:=Al.out
   obtain⟨ad,rfl,Bf,Be⟩:=HX.out k hlt
   obtain⟨q0,q1,q2,q3⟩:=Be.below hB Bf
   have Ac:=fun h=>Hd ((HH k).out hlt HP.out h)
   have HN:=fun h=>Hd (snoc (p:=fun m=>Ab4 cs m=0) (j:=k) HP.out h)
   have C1:=fun h=>Hd (Bl1 (cs:=cs) (i:=k) h)
   have C2:=fun h h2=>Hd (Bp9 (cs:=cs) (i:=k) h h2)
   have C3:=fun h h2 h3=>Hd (Bl0 (cs:=cs) (i:=k) h h2 h3)
   have C4:=fun h h2 h3=>Hd (Al8 (cs:=cs) (i:=k) h h2 h3)
   clear HH HM HV HP Be
   generalize cs.getD k col0=C at *
   obtain⟨cn,ct,Ad,Ap⟩:=C
   have Aj:=fun w=>Hd (Bd cn w).out
   have Aa:=fun w=>Hd (Ba ct w).out
   clear Bd Ba
   have Bb:=Var4.new wr (.string cn) (.int .i64 ct) (.int .i64 Ad) (.bool Ap) 62
   have An:=Hd (Al.out.step ((Q2 _ _).alloc (Q1 _) (.cells #[.string cn,.int .i64 ct,.int .i64 Ad,.bool Ap] 62)))
   have Ay:Below W.heap.size W (wr.alloc (.cells #[.string cn,.int .i64 ct,.int .i64 Ad,.bool Ap] 62)):=hB.alloc hB.size _
   have Ar:=Hd Bb
   obtain⟨k0,k1,k2,k3⟩:=Bb
   go_wp2_with fail
   clear q0 q1 q2 q3 l0 l1 Al hB
   generalize wr.heap.size=g at *
   generalize wr.alloc (.cells #[.string cn,.int .i64 ct,.int .i64 Ad,.bool Ap] 62)=w1 at *
   refine(Aj _).out.mono ?_
   rintro e Bn ⟨rfl,rfl⟩
   clear Aj
   cases hn:Aj8 cn with
   | false=>
     have HE:=C1 hn
     have Ab:=Hd ((Ac (by rw[HE.out];decide)).out.trans HE.out)
     clear C1 C2 C3 C4 hn Ac HN Aa HE
     go_wp2_with fail
     go_ret
     exact RetB.mk (by rw[Ab.out];rfl) Ay
   | true=>
   replace C2:=C2 hn
   replace C3:=C3 hn
   replace C4:=C4 hn
   clear C1 hn
   obtain⟨l0,l1,_,_⟩:=An.out
   have Bp:(k:Int)<=c:=by omega
   go_wp2_with fail
   clear l0 l1 k0 k1 k2 k3
   go_loopw[2,6,32] (fun r _ j wx=>∃m:Nat,r=.int .i64 0/\j=.int .i64 m/\m<=k/\Below W.heap.size W wx/\Below w1.heap.size w1 wx/\Hid (∀n,n<m->¬(cs.getD n col0).nm=cn)) (fun _ _ j _=>k-(intOf j).toNat)
   case atStart=>exact⟨0,rfl,rfl,Nat.zero_le _,Ay,Q2 _ _,Hd Ak7⟩
   case round=>
    obtain⟨m,rfl,rfl,Bt,Ae,Af,Ao⟩:=hrel
    by_cases hltm:m<k
    ·obtain⟨Br,Bi,Au,Ak⟩:=HX.out m (by omega)
     cases Bi
     obtain⟨q0,q1,q2,q3⟩:=Ak.below Ae Au
     obtain⟨k0,k1,k2,k3⟩:=Ar.out.step Af
     have Ag:=fun h=>Hd (snoc (p:=fun n=>¬(cs.getD n col0).nm=cn) (j:=m) Ao.out h)
     have Ah:=fun h=>C2 ⟨m,hltm,h⟩
     clear Ak C2 C3 C4 Ao Ar An HX HN Aa
     generalize cs.getD m col0=D at *
     obtain⟨dn,dt,Bo,Bq⟩:=D
     replace Ag:¬dn=cn->Hid (∀n,n<m+1->¬(cs.getD n col0).nm=cn):=Ag
     replace Ah:dn=cn->Hid (Ab4 cs k=5):=Ah
     have Ai:=fun o=>Ae.alloc Ae.size o
     have Ax:=fun o=>Af.alloc Af.size o
     have Bm:∀o,(wr.alloc o).cell? ⟨g,0,none⟩=some (.string cn):=fun o=>(World.cell?_alloc_past o g 0 (World.block_lt_of_cell? wr _ k0)).trans k0
     by_cases he:dn=cn
     ·have HE:=Ah he
      have Ab:=Hd ((Ac (by rw[HE.out];decide)).out.trans HE.out)
      have ht:=Az8 he
      clear Ah Ag Ac HE he k1 k2 k3
      go_wp2_with fail
      go_ret
      exact RetB.mk (by rw[Ab.out];rfl) (Ai _)
     ·have HE:=Ag he
      have ht:=Au2 he
      clear Ah Ag Ac he k1 k2 k3
      go_wp2_with fail
      go_roundw
      case rel=>exact⟨m+1,rfl,by go_num,hltm,Ai _,Ax _,HE⟩
      case measure=>simp[intOf]<;>omega
    ·have Aw:¬∃j,j<k/\(cs.getD j col0).nm=cn:=fun⟨j,hj,he⟩=>Ao.out j (by omega) he
     replace C3:=C3 Aw
     replace C4:=C4 Aw
     have Az:=Hd (An.out.step Af)
     obtain⟨k0,k1,k2,k3⟩:=Ar.out.step Af
     clear C2 Aw Ao Ar An HX Ay Af
     cases ht:okT ct with
     | false=>
       have HE:=C3 ht
       have Ab:=Hd ((Ac (by rw[HE.out];decide)).out.trans HE.out)
       rw[ht] at Aa
       clear C3 C4 Ac HN HE ht
       go_wp2_with(go_at_call 73;refine(Aa _).out.mono ?_;rintro e w' ⟨rfl,rfl⟩)
       go_ret
       exact RetB.mk (by rw[Ab.out];rfl) Ae
     | true=>
     have HE:=C4 ht
     rw[ht] at Aa
     clear C3 C4 ht
     by_cases hs:Ad<0
     ·have Bh:decide (Ad<0)=true:=Q4 hs
      rw[if_pos (.inl hs)] at HE
      have Ab:=Hd ((Ac (by rw[HE.out];decide)).out.trans HE.out)
      clear Ac HN HE
      go_wp2_with(go_at_call 73;refine(Aa _).out.mono ?_;rintro e w' ⟨rfl,rfl⟩)
      go_ret
      exact RetB.mk (by rw[Ab.out];rfl) Ae
     have Bh:decide (Ad<0)=false:=Q3 hs
     by_cases hg:18<Ad
     ·have Bl:decide (18<Ad)=true:=Q4 hg
      rw[if_pos (.inr (.inl hg))] at HE
      have Ab:=Hd ((Ac (by rw[HE.out];decide)).out.trans HE.out)
      clear Ac HN HE
      go_wp2_with(go_at_call 73;refine(Aa _).out.mono ?_;rintro e w' ⟨rfl,rfl⟩)
      go_ret
      exact RetB.mk (by rw[Ab.out];rfl) Ae
     have Bl:decide (18<Ad)=false:=Q3 hg
     by_cases h5:ct=5
     ·have Bg:(ct !=5)=false:=Ca9 h5
      rw[if_neg (by omega)] at HE
      have Ab:=HN HE.out
      clear Ac HN HE hs hg h5
      go_wp2_with(go_at_call 73;refine(Aa _).out.mono ?_;rintro e w' ⟨rfl,rfl⟩)
      go_roundw
      case rel=>exact⟨k+1,rfl,by go_num,hlt,Ae,Az,Ab⟩
      case measure=>simp[intOf]<;>omega
     have Bg:(ct !=5)=true:=Ab5 h5
     by_cases h00:Ad=0
     ·have Bj:(Ad !=0)=false:=Ca9 h00
      rw[if_neg (by omega)] at HE
      have Ab:=HN HE.out
      clear Ac HN HE hs hg h5 h00
      go_wp2_with(go_at_call 73;refine(Aa _).out.mono ?_;rintro e w' ⟨rfl,rfl⟩)
      go_roundw
      case rel=>exact⟨k+1,rfl,by go_num,hlt,Ae,Az,Ab⟩
      case measure=>simp[intOf]<;>omega
     ·have Bj:(Ad !=0)=true:=Ab5 h00
      rw[if_pos (.inr (.inr ⟨h5,h00⟩))] at HE
      have Ab:=Hd ((Ac (by rw[HE.out];decide)).out.trans HE.out)
      clear Ac HN HE
      go_wp2_with(go_at_call 73;refine(Aa _).out.mono ?_;rintro e w' ⟨rfl,rfl⟩)
      go_ret
      exact RetB.mk (by rw[Ab.out];rfl) Ae
  ·obtain⟨l0,l1,_,_⟩:=Al.out
   have HE:=Hd (HM.out (fun j hj=>HP.out j (by omega)))
   clear HM HP HH HV Al HX
   by_cases h1:key<0
   ·have Bk:decide (key<0)=true:=Q4 h1
    have Ab:=Hd (HE.out.trans (if_pos (.inl h1)))
    clear HE
    go_wp2_with fail
    go_ret
    exact RetB.mk (by rw[Ab.out];rfl) hB
   ·have Bk:decide (key<0)=false:=Q3 h1
    by_cases h2:(cs.length:Int)<=key
    ·have Ab:=Hd (HE.out.trans (if_pos (.inr h2)))
     clear HE
     go_wp2_with fail
     go_ret
     exact RetB.mk (by rw[Ab.out];rfl) hB
    ·have Ab:=Hd (HE.out.trans (if_neg (by omega)))
     clear HE
     go_wp2_with fail
     go_ret
     exact RetB.mk (by rw[Ab.out];rfl) hB
end Go.P
namespace Go.P
open RowKit VB VS VL SC CK Go.ST MK RS
theorem Eo1(cs:List Col)(v:Value)(key:Int)(x:Value)(l:List Vl)(W:World)(hr:RdC W W.heap.size v cs)(hx:RdL W W.heap.size x l):
   Calls Tryz.prog 114 #[.agg #[v,.int .i64 key],x] W (RetB (.int .i64 (Ag5 cs l:Nat)) W):=by
 obtain⟨A,c,n,rfl,hn,Az,Bc⟩:=hx.bds
 have HN:=Hd hn;clear hn
 obtain⟨A2,c2,rfl,Ba,As,Ak⟩:=hr
 unfold maxLen at As
 have HX:=Hd hx
 have Aw:=Hd Ak
 clear hx Ak
 have HV:=Hd (Var2.new W (.slice A2 cs.length c2) (.int .i64 key) 24)
 have Ab:=Hd ((Q2 W.heap.size W).alloc (Q1 _) (.cells #[.slice A2 cs.length c2,.int .i64 key] 24))
 have Ax:=Hd (show(W.alloc (.cells #[.slice A2 cs.length c2,.int .i64 key] 24)).heap.size=W.heap.size+1 from by simp)
 have HH:=fun j y=>Hd (Bp8 (cs:=cs) (l:=l) (j:=j) (x:=y))
 have HM:=Hd (Av2 (cs:=cs) (l:=l))
 have HL:=Hd (Bp7 (cs:=cs) (l:=l))
 generalize Ag5 cs l=E at *
 go_enter Tryz.func114,Tryz.ntmps114
 by_cases hlen:n=cs.length
 case neg=>
  have hd:((n:Int)!=(cs.length:Int))=true:=Ab5 (by omega)
  have HE:=Hd (HL.out (by rw[←HN.out];exact hlen))
  clear hlen HH HM HL
  go_wp2_with fail
  go_ret
  exact RetB.mk (by rw[HE.out];rfl) Ab.out
 have hd:((n:Int)!=(cs.length:Int))=false:=Ca9 (by omega)
 have Ah:l.length=cs.length:=by have:=HN.out;omega
 have Al:=Hd Ah;have HNC:=Hd hlen
 clear HL Ah hlen
 go_wp2_with fail
 clear hd
 go_loopw[4,5,6,7,16] (fun r _ _ _ i wr=>∃j:Nat,r=.int .i64 0/\i=.int .i64 j/\j<=n/\Below (W.heap.size+1) (W.alloc (.cells #[.slice A2 cs.length c2,.int .i64 key] 24)) wr/\Hid (∀m y,m<j->l[m]?=some y->Ae6 (cs.getD m col0).ty (cs.getD m col0).nu y=0)) (fun _ _ _ _ i _=>n-(intOf i).toNat)
 case atStart=>exact⟨0,rfl,rfl,Nat.zero_le _,Q2 _ _,Hd fun m y h=>absurd h (Nat.not_lt_zero _)⟩
 case round=>
  obtain⟨j,rfl,rfl,hj,Aa,HF⟩:=hrel
  have An:Below W.heap.size W wr:=Ab.out.trans (Aa.mono (Nat.le_succ _))
  have Aj:=Aa.size
  rw[Ax.out] at Aj
  by_cases hlt:j<n
  ·have Ac:l[j]?=some l[j]:=Q7 (by have:=HN.out;omega)
   obtain⟨ad,rfl,_,q0,q1,q2⟩:=(HX.out.below An).at Ac
   obtain⟨Ag,rfl,Ar,Af⟩:=Aw.out j (by have:=HNC.out;omega)
   have HJ:=Hd Ac;clear Ac
   have Aq:=Hd (fun y=>(HH j y).out)
   generalize l[j]=X at q0 q1 q2 HJ
   obtain⟨xb,xn,xs⟩:=X
   simp only at q0 q1 q2
   have Ap:=Hd (Aa.alloc Aj (.cells #[.bool xb,.int .i64 xn,.string xs] 49))
   obtain⟨C,Ad⟩:∃C,cs.getD j col0=C:=⟨_,rfl⟩
   rw[Ad] at Af
   have Ae:=Hd Ad
   clear Ad
   have HU:=Hd (show ∀w,Below (wr.alloc (.cells #[.bool xb,.int .i64 xn,.string xs] 49)).heap.size (wr.alloc (.cells #[.bool xb,.int .i64 xn,.string xs] 49)) w->Var2 w W.heap.size (.slice (some Ag) cs.length c2) (.int .i64 key)/\Var3 w wr.heap.size (.bool xb) (.int .i64 xn) (.string xs)/\At4 w Ag j C/\Below (W.heap.size+1) (W.alloc (.cells #[.slice (some Ag) cs.length c2,.int .i64 key] 24)) w from fun w h=>
    have h2:=Ap.out.trans (h.mono (by simp;omega))
    ⟨HV.out.below h2 (Nat.lt_succ_self _),(Var3.new wr (.bool xb) (.int .i64 xn) (.string xs) 49).step h,Af.below (Ab.out.trans (h2.mono (Nat.le_succ _))) Ar,h2⟩)
   obtain⟨nm,ty,sc,nu⟩:=C
   have HC:=fun w=>Hd (Bb3 nm ty sc nu xb xn xs w)
   have Bb:(j:Int)<(cs.length:Int):=by have:=HNC.out;omega
   obtain⟨D,hD⟩:∃D,Ae6 ty nu ⟨xb,xn,xs⟩=D:=⟨_,rfl⟩
   have Ao:chk ty nu xb xn xs=D:=hD
   rw[Ao] at HC
   have HD:=Hd hD
   clear hD Ao Af
   go_wp2_with fail
   clear q0 q1 q2
   refine Go.Confl.wp_region_confl (by simp only[List.map_cons,List.map_nil];rfl) (by kernel_rfl) (by kernel_rfl) ?_
   iterate 8
    first
    | (refine Go.Confl.chain_skip (Go.Confl.unwanted_is rfl rfl) ?_)
    | (first | apply Go.Confl.chain_is _ (Go.Confl.wanted_none rfl) | apply Go.Confl.chain_is _ (Go.Confl.wanted_is rfl rfl)
       ·intro b w hr hb K hK
        simp[Go.Confl.readFacts,Go.Confl.tmpsOf,Go.Confl.writerOf,Go.Confl.Is,Op.operands,Call.operands,List.findIdx?,List.findIdx?.go] at hr
        obtain⟨⟨v0,v1,_,_⟩,⟨m0,m1,m2,_,_,_⟩,⟨k0,k1,k2,k3⟩,_⟩:=HU.out _ hb
        simp only at k0 k1 k2 k3
        go_wp2_with(first
         | (go_at_call 149;(with_reducible refine(HC _).out.mono ?_);rintro e w' ⟨rfl,Ay⟩))
        try(simp only[hr];go_wp2)
        exact hK _ _ rfl (by first | exact Q2 _ _ | assumption))
    simp only[List.nil_append,List.cons_append]
   intro us w hp hb
   simp[Go.Confl.allPosts,Go.Confl.Is] at hp
   simp only[Go.Confl.putsFrom,hp,Act.put,List.setIfInBounds_toArray,List.set_cons_zero,List.set_cons_succ]
   obtain⟨-,-,-,Ai⟩:=HU.out _ hb
   clear hb HU HC Ap
   by_cases h0:D=0
   ·subst h0
    have Au:=Hd (show ∀m y,m<j+1->l[m]?=some y->Ae6 (cs.getD m col0).ty (cs.getD m col0).nu y=0 from fun m y hm hy=>by
     by_cases e:m=j
     ·subst e;rw[HJ.out] at hy;obtain rfl:=Option.some.inj hy;rw[Ae.out];exact HD.out
     ·exact HF.out m y (by omega) hy)
    go_wp2_with fail
    go_roundw
    case rel=>exact⟨j+1,rfl,by go_num,hlt,Ai,Au⟩
    case measure=>simp[intOf]<;>omega
   ·have hd:((D:Int)!=0)=true:=Ab5 (by omega)
    have HE:=Hd (show E=D from(Aq.out _ Al.out HJ.out (fun m y hm hy=>HF.out m y hm hy) (by rw[Ae.out];show ¬Ae6 ty nu ⟨xb,xn,xs⟩=0;rw[HD.out];exact h0)).trans (by rw[Ae.out];exact HD.out))
    clear h0 HH HM HF Aq
    go_wp2_with fail
    go_ret
    exact RetB.mk (by rw[HE.out];rfl) (Ab.out.trans (Ai.mono (Nat.le_succ _)))
  ·have HE:=Hd (HM.out Al.out (fun k y hy=>HF.out k y (by have:=(List.getElem?_eq_some_iff.1 hy).1;have:=HN.out;omega) hy))
   clear HH HM HF
   go_wp2
   go_ret
   exact RetB.mk (by rw[HE.out];rfl) An
theorem Dn7(cs:List Col)(v:Value)(key:Int)(x:Value)(l:List Vl)(W:World)(hr:RdC W W.heap.size v cs)(hx:RdL W W.heap.size x l):
   Calls Tryz.prog 110 #[.agg #[v,.int .i64 key],x] W (RetB (.int .i64 (Ag5 cs l:Nat)) W):=by
 obtain⟨A,c,n,rfl,hn,Az,Bc⟩:=hx.bds
 have HN:=Hd hn;clear hn
 obtain⟨A2,c2,rfl,Ba,As,Ak⟩:=hr
 unfold maxLen at As
 have HX:=Hd hx
 have Aw:=Hd Ak
 clear hx Ak
 have HV:=Hd (Var2.new W (.slice A2 cs.length c2) (.int .i64 key) 24)
 have Ab:=Hd ((Q2 W.heap.size W).alloc (Q1 _) (.cells #[.slice A2 cs.length c2,.int .i64 key] 24))
 have Ax:=Hd (show(W.alloc (.cells #[.slice A2 cs.length c2,.int .i64 key] 24)).heap.size=W.heap.size+1 from by simp)
 have HH:=fun j y=>Hd (Bp8 (cs:=cs) (l:=l) (j:=j) (x:=y))
 have HM:=Hd (Av2 (cs:=cs) (l:=l))
 have HL:=Hd (Bp7 (cs:=cs) (l:=l))
 generalize Ag5 cs l=E at *
 go_enter Tryz.func110,Tryz.ntmps110
 by_cases hlen:n=cs.length
 case neg=>
  have hd:((n:Int)!=(cs.length:Int))=true:=Ab5 (by omega)
  have HE:=Hd (HL.out (by rw[←HN.out];exact hlen))
  clear hlen HH HM HL
  go_wp2_with fail
  go_ret
  exact RetB.mk (by rw[HE.out];rfl) Ab.out
 have hd:((n:Int)!=(cs.length:Int))=false:=Ca9 (by omega)
 have Ah:l.length=cs.length:=by have:=HN.out;omega
 have Al:=Hd Ah;have HNC:=Hd hlen
 clear HL Ah hlen
 go_wp2_with fail
 clear hd
 go_loopw[4,5,6,7,16] (fun r _ _ _ i wr=>∃j:Nat,r=.int .i64 0/\i=.int .i64 j/\j<=n/\Below (W.heap.size+1) (W.alloc (.cells #[.slice A2 cs.length c2,.int .i64 key] 24)) wr/\Hid (∀m y,m<j->l[m]?=some y->Ae6 (cs.getD m col0).ty (cs.getD m col0).nu y=0)) (fun _ _ _ _ i _=>n-(intOf i).toNat)
 case atStart=>exact⟨0,rfl,rfl,Nat.zero_le _,Q2 _ _,Hd fun m y h=>absurd h (Nat.not_lt_zero _)⟩
 case round=>
  obtain⟨j,rfl,rfl,hj,Aa,HF⟩:=hrel
  have An:Below W.heap.size W wr:=Ab.out.trans (Aa.mono (Nat.le_succ _))
  have Aj:=Aa.size
  rw[Ax.out] at Aj
  by_cases hlt:j<n
  ·have Ac:l[j]?=some l[j]:=Q7 (by have:=HN.out;omega)
   obtain⟨ad,rfl,_,q0,q1,q2⟩:=(HX.out.below An).at Ac
   obtain⟨Ag,rfl,Ar,Af⟩:=Aw.out j (by have:=HNC.out;omega)
   have HJ:=Hd Ac;clear Ac
   have Aq:=Hd (fun y=>(HH j y).out)
   generalize l[j]=X at q0 q1 q2 HJ
   obtain⟨xb,xn,xs⟩:=X
   simp only at q0 q1 q2
   have Ap:=Hd (Aa.alloc Aj (.cells #[.bool xb,.int .i64 xn,.string xs] 49))
   obtain⟨C,Ad⟩:∃C,cs.getD j col0=C:=⟨_,rfl⟩
   rw[Ad] at Af
   have Ae:=Hd Ad
   clear Ad
   have HU:=Hd (show ∀w,Below (wr.alloc (.cells #[.bool xb,.int .i64 xn,.string xs] 49)).heap.size (wr.alloc (.cells #[.bool xb,.int .i64 xn,.string xs] 49)) w->Var2 w W.heap.size (.slice (some Ag) cs.length c2) (.int .i64 key)/\Var3 w wr.heap.size (.bool xb) (.int .i64 xn) (.string xs)/\At4 w Ag j C/\Below (W.heap.size+1) (W.alloc (.cells #[.slice (some Ag) cs.length c2,.int .i64 key] 24)) w from fun w h=>
    have h2:=Ap.out.trans (h.mono (by simp;omega))
    ⟨HV.out.below h2 (Nat.lt_succ_self _),(Var3.new wr (.bool xb) (.int .i64 xn) (.string xs) 49).step h,Af.below (Ab.out.trans (h2.mono (Nat.le_succ _))) Ar,h2⟩)
   obtain⟨nm,ty,sc,nu⟩:=C
   have HC:=fun w=>Hd (Cp6 nm ty sc nu xb xn xs w)
   have Bb:(j:Int)<(cs.length:Int):=by have:=HNC.out;omega
   obtain⟨D,hD⟩:∃D,Ae6 ty nu ⟨xb,xn,xs⟩=D:=⟨_,rfl⟩
   have Ao:chk ty nu xb xn xs=D:=hD
   rw[Ao] at HC
   have HD:=Hd hD
   clear hD Ao Af
   go_wp2_with fail
   clear q0 q1 q2
   refine Go.Confl.wp_region_confl (by simp only[List.map_cons,List.map_nil];rfl) (by kernel_rfl) (by kernel_rfl) ?_
   iterate 8
    first
    | (refine Go.Confl.chain_skip (Go.Confl.unwanted_is rfl rfl) ?_)
    | (first | apply Go.Confl.chain_is _ (Go.Confl.wanted_none rfl) | apply Go.Confl.chain_is _ (Go.Confl.wanted_is rfl rfl)
       ·intro b w hr hb K hK
        simp[Go.Confl.readFacts,Go.Confl.tmpsOf,Go.Confl.writerOf,Go.Confl.Is,Op.operands,Call.operands,List.findIdx?,List.findIdx?.go] at hr
        obtain⟨⟨v0,v1,_,_⟩,⟨m0,m1,m2,_,_,_⟩,⟨k0,k1,k2,k3⟩,_⟩:=HU.out _ hb
        simp only at k0 k1 k2 k3
        go_wp2_with(first
         | (go_at_call 93;(with_reducible refine(HC _).out.mono ?_);rintro e w' ⟨rfl,Ay⟩))
        try(simp only[hr];go_wp2)
        exact hK _ _ rfl (by first | exact Q2 _ _ | assumption))
    simp only[List.nil_append,List.cons_append]
   intro us w hp hb
   simp[Go.Confl.allPosts,Go.Confl.Is] at hp
   simp only[Go.Confl.putsFrom,hp,Act.put,List.setIfInBounds_toArray,List.set_cons_zero,List.set_cons_succ]
   obtain⟨-,-,-,Ai⟩:=HU.out _ hb
   clear hb HU HC Ap
   by_cases h0:D=0
   ·subst h0
    have Au:=Hd (show ∀m y,m<j+1->l[m]?=some y->Ae6 (cs.getD m col0).ty (cs.getD m col0).nu y=0 from fun m y hm hy=>by
     by_cases e:m=j
     ·subst e;rw[HJ.out] at hy;obtain rfl:=Option.some.inj hy;rw[Ae.out];exact HD.out
     ·exact HF.out m y (by omega) hy)
    go_wp2_with fail
    go_roundw
    case rel=>exact⟨j+1,rfl,by go_num,hlt,Ai,Au⟩
    case measure=>simp[intOf]<;>omega
   ·have hd:((D:Int)!=0)=true:=Ab5 (by omega)
    have HE:=Hd (show E=D from(Aq.out _ Al.out HJ.out (fun m y hm hy=>HF.out m y hm hy) (by rw[Ae.out];show ¬Ae6 ty nu ⟨xb,xn,xs⟩=0;rw[HD.out];exact h0)).trans (by rw[Ae.out];exact HD.out))
    clear h0 HH HM HF Aq
    go_wp2_with fail
    go_ret
    exact RetB.mk (by rw[HE.out];rfl) (Ab.out.trans (Ai.mono (Nat.le_succ _)))
  ·have HE:=Hd (HM.out Al.out (fun k y hy=>HF.out k y (by have:=(List.getElem?_eq_some_iff.1 hy).1;have:=HN.out;omega) hy))
   clear HH HM HF
   go_wp2
   go_ret
   exact RetB.mk (by rw[HE.out];rfl) An
theorem Eq1(cs:List Col)(v:Value)(key:Int)(x:Value)(l:List Rc)(W:World)(hr:RdC W W.heap.size v cs)(hx:RdR W W.heap.size x l):
   Calls Tryz.prog 77 #[.agg #[v,.int .i64 key],x] W (RetB (.bool (Bg2 cs key l)) W):=by
 obtain⟨A,c,n,rfl,hn,Ba,Az⟩:=hx.bds
 have HN:=Hd hn;clear hn
 have HX:=Hd hx;have HR:=Hd hr
 clear hx hr
 have HV:=Hd (Var2.new W v (.int .i64 key) 24)
 have Ab:=Hd ((Q2 W.heap.size W).alloc (Q1 _) (.cells #[v,.int .i64 key] 24))
 have As:=Hd (show(W.alloc (.cells #[v,.int .i64 key] 24)).heap.size=W.heap.size+1 from by simp)
 have hS:=Hd (Cd4 cs v key (W.alloc (.cells #[v,.int .i64 key] 24)) (HR.out.step Ab.out))
 have Ai:=Hd (Cn0 (cs:=cs) (key:=key) (l:=l))
 have HH:=fun j y=>Hd (Cn1 (cs:=cs) (key:=key) (l:=l) (j:=j) (r:=y))
 have HM:=Hd (Br6 (cs:=cs) (key:=key) (l:=l))
 generalize Bg2 cs key l=E at *
 generalize Ad9 cs key=T at *
 have hu:=HV.out
 obtain⟨v0,v1,_,_⟩:=hu
 go_enter Tryz.func77,Tryz.ntmps77
 go_wp2_with fail
 (with_reducible refine hS.out.mono ?_);rintro e w1 ⟨rfl,An⟩
 have Ae:=Hd (show Below (W.heap.size+1) (W.alloc (.cells #[v,.int .i64 key] 24)) w1 from An.mono (by rw[As.out];omega))
 clear An v0 v1 hS
 by_cases h0:T=0
 case neg=>
  have hd:((T:Int)!=0)=true:=Ab5 (by omega)
  have HE:=Hd (Ai.out h0)
  clear h0 HH HM Ai
  go_wp2_with fail
  go_ret
  exact RetB.mk (by first | (rw[HE.out];rfl) | rw[HE.out]) (Ab.out.trans (Ae.out.mono (Nat.le_succ _)))
 subst h0
 clear Ai
 go_wp2_with fail
 go_loopw[4,6,12] (fun r _ i wr=>∃j:Nat,r=.bool false/\i=.int .i64 j/\j<=n/\Below (W.heap.size+1) (W.alloc (.cells #[v,.int .i64 key] 24)) wr/\Hid (∀(m:Nat)(y:Rc),m<j->l[m]?=some y->Ag3 cs y=true)) (fun _ _ i _=>n-(intOf i).toNat)
 case atStart=>exact⟨0,rfl,rfl,Nat.zero_le _,Ae.out,Hd fun m y h=>absurd h (Nat.not_lt_zero _)⟩
 case round=>
  clear Ae
  obtain⟨j,rfl,rfl,hj,Aa,HF⟩:=hrel
  have Af:Below W.heap.size W wr:=Ab.out.trans (Aa.mono (Nat.le_succ _))
  have Ap:=Aa.size
  rw[As.out] at Ap
  by_cases hlt:j<n
  ·have Aj:l[j]?=some l[j]:=Q7 (by have:=HN.out;omega)
   obtain⟨ad,rA,rn,rc,rfl,-,q0,q1,-,qr⟩:=(HX.out.below Af).at Aj
   have HJ:=Hd Aj;clear Aj
   generalize l[j]=R at q0 q1 qr HJ
   obtain⟨q,row⟩:=R
   simp only at q0 q1 qr
   have Ad:=Hd (Aa.alloc Ap (.cells #[.int .i64 q,.slice rA rn rc] 67))
   obtain⟨v0,v1,_,_⟩:=HV.out.below Ad.out (Nat.lt_succ_self _)
   have Ah:=(Q2 wr.heap.size wr).alloc (Q1 _) (.cells #[.int .i64 q,.slice rA rn rc] 67)
   have HC:=Hd (Eo1 cs v key (.slice rA rn rc) row (wr.alloc (.cells #[.int .i64 q,.slice rA rn rc] 67)) ((HR.out.step Af).step Ah) ((qr.more (by omega:W.heap.size<=wr.heap.size)).step Ah))
   have Ax:=Hd (show W.heap.size+1<=(wr.alloc (.cells #[.int .i64 q,.slice rA rn rc] 67)).heap.size from by simp;omega)
   have Ac:=HH j ⟨q,row⟩
   have Ak:=Hd (Cq9 (cs:=cs) (r:=⟨q,row⟩))
   have Aq:=Hd (Cr0 (cs:=cs) (r:=⟨q,row⟩))
   have Aw:=Hd (Ca0 (cs:=cs) (r:=⟨q,row⟩))
   have Ar:=Hd (Bt3 (cs:=cs) (r:=⟨q,row⟩))
   obtain⟨D,hD⟩:∃D,Ag5 cs row=D:=⟨_,rfl⟩
   rw[hD] at HC
   have HD:=Hd hD
   clear hD qr HH Ah
   by_cases hlo:q<0
   ·have hd:decide (q<0)=true:=Q4 hlo
    have HE:=Hd (Ac.out HJ.out (Ak.out hlo))
    clear hlo HM HF Ac HC
    go_wp2_with fail
    go_ret
    exact RetB.mk (by first | (rw[HE.out];rfl) | rw[HE.out]) (Ab.out.trans (Ad.out.mono (Nat.le_succ _)))
   have hd:decide (q<0)=false:=Q3 hlo
   by_cases hhi:1099511627776<q
   ·have Au:decide ((1099511627776:Int)<q)=true:=Q4 hhi
    have HE:=Hd (Ac.out HJ.out (Aq.out hhi))
    clear hlo hhi HM HF Ac HC
    go_wp2_with fail
    go_ret
    exact RetB.mk (by first | (rw[HE.out];rfl) | rw[HE.out]) (Ab.out.trans (Ad.out.mono (Nat.le_succ _)))
   have Au:decide ((1099511627776:Int)<q)=false:=Q3 hhi
   have Ag:=Hd (Ar.out hlo hhi)
   clear hlo hhi Ar Ak Aq
   go_wp2_with fail
   (with_reducible refine HC.out.mono ?_);rintro e w2 ⟨rfl,Al⟩
   have Ao:=Ad.out.trans (Al.mono Ax.out)
   clear Al q0 q1 v0 v1 HC Ad
   by_cases h0:D=0
   ·subst h0
    have Ay:=Hd (show ∀(m:Nat)(y:Rc),m<j+1->l[m]?=some y->Ag3 cs y=true from fun m y hm hy=>by
     by_cases e:m=j
     ·subst e;rw[HJ.out] at hy;obtain rfl:=Option.some.inj hy;exact(Ag.out HD.out)
     ·exact HF.out m y (by omega) hy)
    go_wp2_with fail
    go_roundw
    case rel=>exact⟨j+1,rfl,by go_num,hlt,Ao,Ay⟩
    case measure=>simp[intOf]<;>omega
   ·have hd:((D:Int)!=0)=true:=Ab5 (by omega)
    have HE:=Hd (Ac.out HJ.out (Aw.out (by rw[HD.out];exact h0)))
    clear h0 HM HF Ac
    go_wp2_with fail
    go_ret
    exact RetB.mk (by first | (rw[HE.out];rfl) | rw[HE.out]) (Ab.out.trans (Ao.mono (Nat.le_succ _)))
  ·have HE:=Hd (HM.out (by first | rfl | trivial) (fun k y hy=>HF.out k y (by have:=(List.getElem?_eq_some_iff.1 hy).1;have:=HN.out;omega) hy))
   clear HH HM HF
   go_wp2
   go_ret
   exact RetB.mk (by first | (rw[HE.out];rfl) | rw[HE.out]) Af
theorem Bz3(cs:List Col)(v:Value)(key:Int)(x:Value)(l:List Rc)(W:World)(hr:RdC W W.heap.size v cs)(hx:RdR W W.heap.size x l):
   Calls Tryz.prog 69 #[.agg #[v,.int .i64 key],x] W (RetB (.bool (Bg2 cs key l)) W):=by
 obtain⟨A,c,n,rfl,hn,Ba,Az⟩:=hx.bds
 have HN:=Hd hn;clear hn
 have HX:=Hd hx;have HR:=Hd hr
 clear hx hr
 have HV:=Hd (Var2.new W v (.int .i64 key) 24)
 have Ab:=Hd ((Q2 W.heap.size W).alloc (Q1 _) (.cells #[v,.int .i64 key] 24))
 have As:=Hd (show(W.alloc (.cells #[v,.int .i64 key] 24)).heap.size=W.heap.size+1 from by simp)
 have hS:=Hd (Ba4 cs v key (W.alloc (.cells #[v,.int .i64 key] 24)) (HR.out.step Ab.out))
 have Ai:=Hd (Cn0 (cs:=cs) (key:=key) (l:=l))
 have HH:=fun j y=>Hd (Cn1 (cs:=cs) (key:=key) (l:=l) (j:=j) (r:=y))
 have HM:=Hd (Br6 (cs:=cs) (key:=key) (l:=l))
 generalize Bg2 cs key l=E at *
 generalize Ad9 cs key=T at *
 have hu:=HV.out
 obtain⟨v0,v1,_,_⟩:=hu
 go_enter Tryz.func69,Tryz.ntmps69
 go_wp2_with fail
 (with_reducible refine hS.out.mono ?_);rintro e w1 ⟨rfl,An⟩
 have Ae:=Hd (show Below (W.heap.size+1) (W.alloc (.cells #[v,.int .i64 key] 24)) w1 from An.mono (by rw[As.out];omega))
 clear An v0 v1 hS
 by_cases h0:T=0
 case neg=>
  have hd:((T:Int)!=0)=true:=Ab5 (by omega)
  have HE:=Hd (Ai.out h0)
  clear h0 HH HM Ai
  go_wp2_with fail
  go_ret
  exact RetB.mk (by first | (rw[HE.out];rfl) | rw[HE.out]) (Ab.out.trans (Ae.out.mono (Nat.le_succ _)))
 subst h0
 clear Ai
 go_wp2_with fail
 go_loopw[4,6,12] (fun r _ i wr=>∃j:Nat,r=.bool false/\i=.int .i64 j/\j<=n/\Below (W.heap.size+1) (W.alloc (.cells #[v,.int .i64 key] 24)) wr/\Hid (∀(m:Nat)(y:Rc),m<j->l[m]?=some y->Ag3 cs y=true)) (fun _ _ i _=>n-(intOf i).toNat)
 case atStart=>exact⟨0,rfl,rfl,Nat.zero_le _,Ae.out,Hd fun m y h=>absurd h (Nat.not_lt_zero _)⟩
 case round=>
  clear Ae
  obtain⟨j,rfl,rfl,hj,Aa,HF⟩:=hrel
  have Af:Below W.heap.size W wr:=Ab.out.trans (Aa.mono (Nat.le_succ _))
  have Ap:=Aa.size
  rw[As.out] at Ap
  by_cases hlt:j<n
  ·have Aj:l[j]?=some l[j]:=Q7 (by have:=HN.out;omega)
   obtain⟨ad,rA,rn,rc,rfl,-,q0,q1,-,qr⟩:=(HX.out.below Af).at Aj
   have HJ:=Hd Aj;clear Aj
   generalize l[j]=R at q0 q1 qr HJ
   obtain⟨q,row⟩:=R
   simp only at q0 q1 qr
   have Ad:=Hd (Aa.alloc Ap (.cells #[.int .i64 q,.slice rA rn rc] 67))
   obtain⟨v0,v1,_,_⟩:=HV.out.below Ad.out (Nat.lt_succ_self _)
   have Ah:=(Q2 wr.heap.size wr).alloc (Q1 _) (.cells #[.int .i64 q,.slice rA rn rc] 67)
   have HC:=Hd (Dn7 cs v key (.slice rA rn rc) row (wr.alloc (.cells #[.int .i64 q,.slice rA rn rc] 67)) ((HR.out.step Af).step Ah) ((qr.more (by omega:W.heap.size<=wr.heap.size)).step Ah))
   have Ax:=Hd (show W.heap.size+1<=(wr.alloc (.cells #[.int .i64 q,.slice rA rn rc] 67)).heap.size from by simp;omega)
   have Ac:=HH j ⟨q,row⟩
   have Ak:=Hd (Cq9 (cs:=cs) (r:=⟨q,row⟩))
   have Aq:=Hd (Cr0 (cs:=cs) (r:=⟨q,row⟩))
   have Aw:=Hd (Ca0 (cs:=cs) (r:=⟨q,row⟩))
   have Ar:=Hd (Bt3 (cs:=cs) (r:=⟨q,row⟩))
   obtain⟨D,hD⟩:∃D,Ag5 cs row=D:=⟨_,rfl⟩
   rw[hD] at HC
   have HD:=Hd hD
   clear hD qr HH Ah
   by_cases hlo:q<0
   ·have hd:decide (q<0)=true:=Q4 hlo
    have HE:=Hd (Ac.out HJ.out (Ak.out hlo))
    clear hlo HM HF Ac HC
    go_wp2_with fail
    go_ret
    exact RetB.mk (by first | (rw[HE.out];rfl) | rw[HE.out]) (Ab.out.trans (Ad.out.mono (Nat.le_succ _)))
   have hd:decide (q<0)=false:=Q3 hlo
   by_cases hhi:1099511627776<q
   ·have Au:decide ((1099511627776:Int)<q)=true:=Q4 hhi
    have HE:=Hd (Ac.out HJ.out (Aq.out hhi))
    clear hlo hhi HM HF Ac HC
    go_wp2_with fail
    go_ret
    exact RetB.mk (by first | (rw[HE.out];rfl) | rw[HE.out]) (Ab.out.trans (Ad.out.mono (Nat.le_succ _)))
   have Au:decide ((1099511627776:Int)<q)=false:=Q3 hhi
   have Ag:=Hd (Ar.out hlo hhi)
   clear hlo hhi Ar Ak Aq
   go_wp2_with fail
   (with_reducible refine HC.out.mono ?_);rintro e w2 ⟨rfl,Al⟩
   have Ao:=Ad.out.trans (Al.mono Ax.out)
   clear Al q0 q1 v0 v1 HC Ad
   by_cases h0:D=0
   ·subst h0
    have Ay:=Hd (show ∀(m:Nat)(y:Rc),m<j+1->l[m]?=some y->Ag3 cs y=true from fun m y hm hy=>by
     by_cases e:m=j
     ·subst e;rw[HJ.out] at hy;obtain rfl:=Option.some.inj hy;exact(Ag.out HD.out)
     ·exact HF.out m y (by omega) hy)
    go_wp2_with fail
    go_roundw
    case rel=>exact⟨j+1,rfl,by go_num,hlt,Ao,Ay⟩
    case measure=>simp[intOf]<;>omega
   ·have hd:((D:Int)!=0)=true:=Ab5 (by omega)
    have HE:=Hd (Ac.out HJ.out (Aw.out (by rw[HD.out];exact h0)))
    clear h0 HM HF Ac
    go_wp2_with fail
    go_ret
    exact RetB.mk (by first | (rw[HE.out];rfl) | rw[HE.out]) (Ab.out.trans (Ao.mono (Nat.le_succ _)))
  ·have HE:=Hd (HM.out (by first | rfl | trivial) (fun k y hy=>HF.out k y (by have:=(List.getElem?_eq_some_iff.1 hy).1;have:=HN.out;omega) hy))
   clear HH HM HF
   go_wp2
   go_ret
   exact RetB.mk (by first | (rw[HE.out];rfl) | rw[HE.out]) Af
end Go.P

namespace Go.SC
open RowKit VB VL
def scL(n:Nat):List UInt8:=if n<10 then[UInt8.ofNat (48+n)] else[UInt8.ofNat (48+n/10),UInt8.ofNat (48+n%10)]
def valL:List UInt8->Nat:=fun l=>l.foldl (fun v b=>v*10+(b.toNat-48)) 0
theorem Dl4:∀n:Fin 100,valL (scL n.1)=n.1/\(∀b∈scL n.1,48<=b.toNat/\b.toNat<=57)/\1<=(scL n.1).length/\(scL n.1).length<=2/\(scL n.1=[48]\/(scL n.1).getD 0 0≠48):=by decide +kernel
theorem Aq4{n:Nat}(h:n<100):1<=(scL n).length/\(scL n).length<=2:=⟨(Dl4 ⟨n,h⟩).2.2.1,(Dl4 ⟨n,h⟩).2.2.2.1⟩
def twL(ty:Int):List UInt8:=(Br9 ty).data.toList
def Ce5(ty sc:Int):List UInt8:=twL ty++(if ty=5 then 32::scL sc.toNat else[])
def Ba8:List UInt8:=[32,110,117,108,108]
def Ca3(nu:Bool):List UInt8:=if nu then Ba8 else[]
def colL(c:Col):List UInt8:=c.nm.data.toList++32::(Ce5 c.ty c.sc++Ca3 c.nu)
def Fh6:List UInt8:=[107,101,121]
end Go.SC
namespace Go.SC
open RowKit VB VL
def txC(cs:List Col):List UInt8:=cs.flatMap fun c=>colL c++[10]
def Bc3(cs:List Col)(key:Int):List UInt8:=txC cs++(Fh6++32::((cs.getD key.toNat col0).nm.data.toList++[10]))
def FT(cs:List Col)(key:Int):ByteArray:=if Ad9 cs key=0 then str (Bc3 cs key) else⟨#[]⟩
theorem Cx5{cs:List Col}{key:Int}(h:¬Ad9 cs key=0):FT cs key=⟨#[]⟩:=if_neg h
theorem Eq9{cs:List Col}{key:Int}(h:Ad9 cs key=0):FT cs key=str (Bc3 cs key):=if_pos h
theorem Bd4{cs:List Col}{i:Nat}(h:i<cs.length):txC (cs.take (i+1))=txC (cs.take i)++(colL (cs.getD i col0)++[10]):=by
 unfold txC
 rw[List.take_add_one,List.getD_eq_getElem?_getD,Q7 h,List.flatMap_append]
 show _++List.flatMap _ [cs[i]]=_
 rw[List.flatMap_singleton]
 rfl
structure CV(c:Col):Prop where
 name:Aj8 c.nm=true
 ty:okT c.ty=true
 sc0:0<=c.sc
 sc18:c.sc<=18
 sc5:c.ty≠5->c.sc=0
theorem En8{cs:List Col}{key:Int}(h:Ad9 cs key=0){i:Nat}(hi:i<cs.length):CV (cs.getD i col0):=by
 obtain⟨_,_,h3,_,_⟩:=Ad7 h
 obtain⟨a,_,b,c,d,e⟩:=Cd2 (h3 i hi)
 exact⟨a,b,c,d,e⟩
theorem CV.nm_size{c:Col}(h:CV c):1<=c.nm.size/\c.nm.size<=16:=⟨(Cr8 h.name).1.1,(Cr8 h.name).1.2.1⟩
theorem Di9{ty:Int}(h:okT ty=true):(twL ty).length<=7:=by
 rcases Aq5 h with rfl | rfl | rfl | rfl | rfl<;>decide
theorem colL_len{c:Col}(h:CV c):(colL c).length<=39:=by
 have h1:=h.nm_size.2
 have h2:=Di9 h.ty
 have h3:=Aq4 (n:=c.sc.toNat) (by have:=h.sc18;omega)
 have h4:(Ce5 c.ty c.sc).length<=10:=by
  unfold Ce5
  rw[Q5]
  split
  ·rw[Q6];omega
  ·simp;omega
 have h5:(Ca3 c.nu).length<=5:=by unfold Ca3;split<;>decide
 have h6:c.nm.data.toList.length=c.nm.size:=Aa1 _
 unfold colL
 simp only[Q5,Q6]
 omega
theorem Br8{cs:List Col}{key:Int}(h:Ad9 cs key=0):∀i,i<=cs.length->(txC (cs.take i)).length<=40*i
 | 0,_=>by simp[txC]
 | i+1,hi=>by
   have h1:=Br8 h i (by omega)
   have h2:=colL_len (En8 h (i:=i) (by omega))
   rw[Bd4 (by omega),Q5,Q5,List.length_singleton]
   omega
theorem By4{n:Nat}(h:n<10):scL n=[UInt8.ofNat (48+n)]:=by unfold scL;rw[if_pos h]
theorem Dl3{n:Nat}(h:¬n<10):scL n=[UInt8.ofNat (48+n/10),UInt8.ofNat (48+n%10)]:=by unfold scL;rw[if_neg h]
theorem Fe2:∀n:Fin 10,(⟨#[48,49,50,51,52,53,54,55,56,57]⟩:ByteArray).extract n.val (n.val+1)=str [UInt8.ofNat (48+n.val)]:=by decide +kernel
theorem Bv5(n:Nat)(h:n<10):(⟨#[48,49,50,51,52,53,54,55,56,57]⟩:ByteArray).extract n (n+1)=str [UInt8.ofNat (48+n)]:=Fe2 ⟨n,h⟩
theorem Aa6{P:Program}(a b:List UInt8)(h:a.length+b.length<=1000000):∀w,(Op.stringOp .add (str a) (str b)).run P w=.ok (.string (str (a++b))) w:=fun w=>by
 rw[run_string_add_sum w (str a) (str b) (by rw[Aa3,Aa3];omega),Ab8]
end Go.SC
namespace Go.P
open RowKit VB VL SC
theorem Cr3(n:Nat)(w:World)(hn:n<100):Calls Tryz.prog 131 #[.int .i64 (n:Int)] w (Ret (.string (str (scL n))) w):=by
 by_cases h:n<10
 ·have HC:=Hd (Bv5 n h)
  rw[By4 h]
  go_enter Tryz.func131,Tryz.ntmps131
  go_wp2
  go_ret
  exact Ret.mk (by rw[←HC.out];rfl)
 ·obtain⟨a,ha⟩:∃a,n/10=a:=⟨_,rfl⟩
  obtain⟨b,hb⟩:∃b,n%10=b:=⟨_,rfl⟩
  have Ad:n=a*10+b:=by omega
  have Ah:b<10:=by omega
  have Af:a<10:=by omega
  have An:1<=a:=by omega
  have Ao:=Bv5 a Af
  have Ap:=Bv5 b Ah
  have Aa:=Aa6 (P:=Tryz.prog) [UInt8.ofNat (48+a)] [UInt8.ofNat (48+b)] (by simp)
  have Ab:=Aa6 (P:=Tryz.prog) [UInt8.ofNat (48+b)] [] (by simp)
  rw[Dl3 h,ha,hb]
  rw[show([UInt8.ofNat (48+a)]++[UInt8.ofNat (48+b)]:List UInt8)=[UInt8.ofNat (48+a),UInt8.ofNat (48+b)] from rfl] at Aa
  rw[List.append_nil,show str []=⟨#[]⟩ from rfl] at Ab
  clear ha hb
  generalize str [UInt8.ofNat (48+a),UInt8.ofNat (48+b)]=R at *
  generalize hX:str [UInt8.ofNat (48+a)]=X at *
  generalize hY:str [UInt8.ofNat (48+b)]=Y at *
  have Al:Hid (Y.size=1):=Hd (by rw[←hY];rfl)
  have Ae:=Hd Ad
  clear Ad
  have Ac:Hid (∀w,(Op.stringOp .add X Y).run Tryz.prog w=.ok (.string R) w):=Hd Aa
  clear hX hY Aa
  go_enter Tryz.func131,Tryz.ntmps131
  go_wp2
  go_loop [0,3] (fun x s=>∃j:Nat,j<=2/\x=.int .i64 (if j=0 then(n:Int) else if j=1 then(a:Int) else 0)/\s=.string (if j=0 then⟨#[]⟩ else if j=1 then Y else R)) (fun x _=>(intOf x).toNat)
  case atStart=>exact⟨0,by omega,rfl,rfl⟩
  case round=>
   obtain⟨j,hj,rfl,rfl⟩:=hrel
   by_cases j0:j=0
   ·subst j0
    simp only[if_true]
    have Ad:=Ae.out
    have Ak:((n:Int)!=0)=true:=Ab5 (by omega)
    have hm:(n:Int).tmod 10=(b:Int):=by rw[Int.tmod_eq_emod_of_nonneg (by omega)];omega
    have hd:(n:Int).tdiv 10=(a:Int):=by rw[Int.tdiv_eq_ediv_of_nonneg (by omega)];omega
    have Aj:(n:Int)%10=(b:Int):=by omega
    have Ag:(n:Int)/10=(a:Int):=by omega
    have Ai:decide ((b:Int)<0)=false:=Q3 (by omega)
    have Aq:a<n:=by omega
    clear Ad Ae Ac
    go_wp2
    exact⟨⟨1,by omega,by simp,by simp⟩,by show((a:Int)).toNat<((n:Int)).toNat;omega⟩
   ·by_cases j1:j=1
    ·subst j1
     simp only[if_neg (show ¬(1:Nat)=0 by decide),if_true]
     have Ak:((a:Int)!=0)=true:=Ab5 (by omega)
     have hm:(a:Int).tmod 10=(a:Int):=by rw[Int.tmod_eq_emod_of_nonneg (by omega)];omega
     have hd:(a:Int).tdiv 10=0:=by rw[Int.tdiv_eq_ediv_of_nonneg (by omega)];omega
     have Aj:(a:Int)%10=(a:Int):=by omega
     have Ag:(a:Int)/10=0:=by omega
     have Ai:decide ((a:Int)<0)=false:=Q3 (by omega)
     have Aa:=Ac.out
     clear Ae Ac h hn
     go_wp2
     exact⟨⟨2,by omega,by simp,by simp⟩,by show((0:Int)).toNat<((a:Int)).toNat;omega⟩
    ·rw[if_neg j0,if_neg j1,if_neg j0,if_neg j1]
     clear Ae Ac j0 j1 hj Ab
     go_wp2
     go_ret
     exact Ret.mk rfl
theorem Cg2(cs:List Col)(v:Value)(key:Int)(W:World)(hr:RdC W W.heap.size v cs):
   Calls Tryz.prog 92 #[.agg #[v,.int .i64 key]] W (RetB (.tuple #[.string (FT cs key),.int .i64 (Ad9 cs key:Nat)]) W):=by
 have Bj:=Var2.new W v (.int .i64 key) 24
 have Bf:Below W.heap.size W (W.alloc (.cells #[v,.int .i64 key] 24)):=(Q2 _ _).alloc (Q1 _) _
 have Bg:=Hd (Ba4 cs v key _ (hr.below Bf |>.more Bf.size))
 obtain⟨A,c,rfl,hc,hm,Bw⟩:=hr
 have hX:∀j,j<cs.length->∃ad,A=some ad/\ad.block<W.heap.size/\At4 W ad j (cs.getD j col0):=Bw
 clear Bw
 unfold maxLen at hm
 have HX:=Hd hX;clear hX
 by_cases he:Ad9 cs key=0
 rotate_left
 ·have hF:=Cx5 he
  rw[hF]
  have hd:((Ad9 cs key:Int)!=0)=true:=Ab5 (by omega)
  clear hF he HX
  generalize Ad9 cs key=E at *
  obtain⟨l0,l1,_,_⟩:=Bj
  go_enter Tryz.func92,Tryz.ntmps92
  go_wp2_with fail
  refine Bg.out.mono ?_
  rintro e w1 ⟨rfl,Bb⟩
  go_wp2_with fail
  go_ret2
  exact RetB.mk rfl (Aa0 Bf Bb)
 have hF:=Eq9 he
 have Bi:=fun i(hi:i<cs.length)=>Hd (En8 he hi)
 have Ay:=Hd (Br8 he)
 obtain⟨Cd,Cc,_,Bz,Cb⟩:=Ad7 he
 have HF:=Hd hF
 have By:=Hd he
 rw[he] at Bg
 clear hF he
 obtain⟨l0,l1,_,_⟩:=id Bj
 go_enter Tryz.func92,Tryz.ntmps92
 go_wp2_with fail
 refine Bg.out.mono ?_
 rintro e w1 ⟨rfl,Bb⟩
 have Br:=Aa0 Bf Bb
 have Bp:=Bj.step Bb
 clear l0 l1 Bf Bj Bg Bb
 obtain⟨l0,l1,_,_⟩:=id Bp
 go_wp2_with fail
 clear l0 l1
 go_loopw[5,7,16] (fun t _ j wr=>∃k:Nat,t=.string (str (txC (cs.take k)))/\j=.int .i64 k/\k<=cs.length/\Below W.heap.size W wr/\Hid (Var2 wr W.heap.size (.slice A cs.length c) (.int .i64 key))) (fun _ _ j _=>cs.length-(intOf j).toNat)
 case atStart=>exact⟨0,rfl,rfl,Nat.zero_le _,Br,Hd Bp⟩
 case round=>
  clear Br Bp
  obtain⟨k,rfl,rfl,hk,hB,Bk⟩:=hrel
  have Bu:=Ay.out k hk
  by_cases hlt:k<cs.length
  ·obtain⟨ad,rfl,Bm,Be⟩:=HX.out k hlt
   obtain⟨q0,q1,q2,q3⟩:=Be.below hB Bm
   have Bt:=(Bi k hlt).out
   have Al:=Hd (Bd4 hlt)
   clear HX Bi Ay HF By Be
   generalize cs.getD k col0=C at *
   obtain⟨NM,ty,sc,nu⟩:=C
   obtain⟨Bc,Az⟩:=Bt.nm_size
   obtain⟨_,Bq,Ap,Ak,Aj⟩:=Bt
   simp only at Bc Az Bq Ap Ak Aj q0 q1 q2 q3
   have hT:(txC (cs.take k)).length<=480:=by omega
   obtain⟨Ab,Af⟩:∃l:List UInt8,l=NM.data.toList:=⟨_,rfl⟩
   have Ca:Ab.length<=16:=by rw[Af,Aa1];exact Az
   have Ag:=Hd (show str Ab=NM from by rw[Af];rfl)
   have Ai:=Hd Af.symm
   clear Af
   have HB:=fun o=>Hd (show Below W.heap.size W (wr.alloc o) from hB.alloc hB.size o)
   have Aq:=fun o=>Hd (Bk.out.step ((Q2 _ _).alloc (Q1 _) o))
   clear Bu hB Bk Bc Az
   generalize txC (cs.take k)=T at *
   rcases Aq5 Bq with rfl | rfl | rfl | rfl | rfl
   all_goals clear Bq
   ·obtain rfl:sc=0:=Aj (by decide)
    clear Aj Ap Ak
    cases nu with
    | false=>
      have e1:=Aa6 (P:=Tryz.prog) T Ab (by omega)
      have e2:=Aa6 (P:=Tryz.prog) (T++Ab) [32,105,110,116] (by simp;omega)
      rw[show str [32,105,110,116]=⟨#[32,105,110,116]⟩ from rfl] at e2
      generalize Ae:(T++Ab)++[32,105,110,116]=T2 at *
      have Ao:T2.length<=990000:=by rw[←Ae];simp only[Q5,Q6,Q8];omega
      obtain⟨T3,Ac⟩:∃T3,T2=T3:=⟨_,rfl⟩
      have An:T3.length<=995000:=by rw[←Ac];omega
      rw[Ac] at e2
      have e4:=Aa6 (P:=Tryz.prog) T3 [10] (by simp;omega)
      rw[show str [10]=⟨#[10]⟩ from rfl] at e4
      have Ad:Hid (str (T3++[10])=str (txC (cs.take (k+1)))):=Hd (by
       rw[Al.out,←Ac,←Ae]
       congr 1
       unfold colL Ce5 Ca3
       simp only[if_neg (show ¬(1:Int)=5 by decide),Bool.false_eq_true,if_false,List.append_nil,List.append_assoc,List.cons_append,List.nil_append,Ba8]
       rw[Ai.out]
       rfl)
      clear Ac Ae  Ao An hT Al
      generalize str (T3++[10])=Aw at *
      generalize str T3=Ar at *
      generalize str (T++Ab)=Au at *
      generalize str T=As at *
      have Aa:=Ag.out
      rw[Aa] at e1
      clear Aa
      go_wp2_with fail
      go_roundw
      case rel=>exact⟨k+1,by rw[Ad.out],by go_num,hlt,(HB _).out,Aq _⟩
      case measure=>simp[intOf]<;>omega
    | true=>
      have e1:=Aa6 (P:=Tryz.prog) T Ab (by omega)
      have e2:=Aa6 (P:=Tryz.prog) (T++Ab) [32,105,110,116] (by simp;omega)
      rw[show str [32,105,110,116]=⟨#[32,105,110,116]⟩ from rfl] at e2
      generalize Ae:(T++Ab)++[32,105,110,116]=T2 at *
      have Ao:T2.length<=990000:=by rw[←Ae];simp only[Q5,Q6,Q8];omega
      have e3:=Aa6 (P:=Tryz.prog) T2 [32,110,117,108,108] (by simp;omega)
      rw[show str [32,110,117,108,108]=⟨#[32,110,117,108,108]⟩ from rfl] at e3
      generalize Ac:T2++[32,110,117,108,108]=T3 at *
      have An:T3.length<=995000:=by rw[←Ac];simp only[Q5,Q6,Q8];omega
      have e4:=Aa6 (P:=Tryz.prog) T3 [10] (by simp;omega)
      rw[show str [10]=⟨#[10]⟩ from rfl] at e4
      have Ad:Hid (str (T3++[10])=str (txC (cs.take (k+1)))):=Hd (by
       rw[Al.out,←Ac,←Ae]
       congr 1
       unfold colL Ce5 Ca3
       simp only[if_neg (show ¬(1:Int)=5 by decide),if_true,List.append_nil,List.append_assoc,List.cons_append,List.nil_append,Ba8]
       rw[Ai.out]
       rfl)
      clear Ac Ae  Ao An hT Al
      generalize str (T3++[10])=Aw at *
      generalize str T3=Ar at *
      generalize str T2=Bh at *
      generalize str (T++Ab)=Au at *
      generalize str T=As at *
      have Aa:=Ag.out
      rw[Aa] at e1
      clear Aa
      go_wp2_with fail
      go_roundw
      case rel=>exact⟨k+1,by rw[Ad.out],by go_num,hlt,(HB _).out,Aq _⟩
      case measure=>simp[intOf]<;>omega
   ·obtain rfl:sc=0:=Aj (by decide)
    clear Aj Ap Ak
    cases nu with
    | false=>
      have e1:=Aa6 (P:=Tryz.prog) T Ab (by omega)
      have e2:=Aa6 (P:=Tryz.prog) (T++Ab) [32,98,111,111,108] (by simp;omega)
      rw[show str [32,98,111,111,108]=⟨#[32,98,111,111,108]⟩ from rfl] at e2
      generalize Ae:(T++Ab)++[32,98,111,111,108]=T2 at *
      have Ao:T2.length<=990000:=by rw[←Ae];simp only[Q5,Q6,Q8];omega
      obtain⟨T3,Ac⟩:∃T3,T2=T3:=⟨_,rfl⟩
      have An:T3.length<=995000:=by rw[←Ac];omega
      rw[Ac] at e2
      have e4:=Aa6 (P:=Tryz.prog) T3 [10] (by simp;omega)
      rw[show str [10]=⟨#[10]⟩ from rfl] at e4
      have Ad:Hid (str (T3++[10])=str (txC (cs.take (k+1)))):=Hd (by
       rw[Al.out,←Ac,←Ae]
       congr 1
       unfold colL Ce5 Ca3
       simp only[if_neg (show ¬(2:Int)=5 by decide),Bool.false_eq_true,if_false,List.append_nil,List.append_assoc,List.cons_append,List.nil_append,Ba8]
       rw[Ai.out]
       rfl)
      clear Ac Ae  Ao An hT Al
      generalize str (T3++[10])=Aw at *
      generalize str T3=Ar at *
      generalize str (T++Ab)=Au at *
      generalize str T=As at *
      have Aa:=Ag.out
      rw[Aa] at e1
      clear Aa
      go_wp2_with fail
      go_roundw
      case rel=>exact⟨k+1,by rw[Ad.out],by go_num,hlt,(HB _).out,Aq _⟩
      case measure=>simp[intOf]<;>omega
    | true=>
      have e1:=Aa6 (P:=Tryz.prog) T Ab (by omega)
      have e2:=Aa6 (P:=Tryz.prog) (T++Ab) [32,98,111,111,108] (by simp;omega)
      rw[show str [32,98,111,111,108]=⟨#[32,98,111,111,108]⟩ from rfl] at e2
      generalize Ae:(T++Ab)++[32,98,111,111,108]=T2 at *
      have Ao:T2.length<=990000:=by rw[←Ae];simp only[Q5,Q6,Q8];omega
      have e3:=Aa6 (P:=Tryz.prog) T2 [32,110,117,108,108] (by simp;omega)
      rw[show str [32,110,117,108,108]=⟨#[32,110,117,108,108]⟩ from rfl] at e3
      generalize Ac:T2++[32,110,117,108,108]=T3 at *
      have An:T3.length<=995000:=by rw[←Ac];simp only[Q5,Q6,Q8];omega
      have e4:=Aa6 (P:=Tryz.prog) T3 [10] (by simp;omega)
      rw[show str [10]=⟨#[10]⟩ from rfl] at e4
      have Ad:Hid (str (T3++[10])=str (txC (cs.take (k+1)))):=Hd (by
       rw[Al.out,←Ac,←Ae]
       congr 1
       unfold colL Ce5 Ca3
       simp only[if_neg (show ¬(2:Int)=5 by decide),if_true,List.append_nil,List.append_assoc,List.cons_append,List.nil_append,Ba8]
       rw[Ai.out]
       rfl)
      clear Ac Ae  Ao An hT Al
      generalize str (T3++[10])=Aw at *
      generalize str T3=Ar at *
      generalize str T2=Bh at *
      generalize str (T++Ab)=Au at *
      generalize str T=As at *
      have Aa:=Ag.out
      rw[Aa] at e1
      clear Aa
      go_wp2_with fail
      go_roundw
      case rel=>exact⟨k+1,by rw[Ad.out],by go_num,hlt,(HB _).out,Aq _⟩
      case measure=>simp[intOf]<;>omega
   ·obtain rfl:sc=0:=Aj (by decide)
    clear Aj Ap Ak
    cases nu with
    | false=>
      have e1:=Aa6 (P:=Tryz.prog) T Ab (by omega)
      have e2:=Aa6 (P:=Tryz.prog) (T++Ab) [32,98,121,116,101,115] (by simp;omega)
      rw[show str [32,98,121,116,101,115]=⟨#[32,98,121,116,101,115]⟩ from rfl] at e2
      generalize Ae:(T++Ab)++[32,98,121,116,101,115]=T2 at *
      have Ao:T2.length<=990000:=by rw[←Ae];simp only[Q5,Q6,Q8];omega
      obtain⟨T3,Ac⟩:∃T3,T2=T3:=⟨_,rfl⟩
      have An:T3.length<=995000:=by rw[←Ac];omega
      rw[Ac] at e2
      have e4:=Aa6 (P:=Tryz.prog) T3 [10] (by simp;omega)
      rw[show str [10]=⟨#[10]⟩ from rfl] at e4
      have Ad:Hid (str (T3++[10])=str (txC (cs.take (k+1)))):=Hd (by
       rw[Al.out,←Ac,←Ae]
       congr 1
       unfold colL Ce5 Ca3
       simp only[if_neg (show ¬(3:Int)=5 by decide),Bool.false_eq_true,if_false,List.append_nil,List.append_assoc,List.cons_append,List.nil_append,Ba8]
       rw[Ai.out]
       rfl)
      clear Ac Ae  Ao An hT Al
      generalize str (T3++[10])=Aw at *
      generalize str T3=Ar at *
      generalize str (T++Ab)=Au at *
      generalize str T=As at *
      have Aa:=Ag.out
      rw[Aa] at e1
      clear Aa
      go_wp2_with fail
      go_roundw
      case rel=>exact⟨k+1,by rw[Ad.out],by go_num,hlt,(HB _).out,Aq _⟩
      case measure=>simp[intOf]<;>omega
    | true=>
      have e1:=Aa6 (P:=Tryz.prog) T Ab (by omega)
      have e2:=Aa6 (P:=Tryz.prog) (T++Ab) [32,98,121,116,101,115] (by simp;omega)
      rw[show str [32,98,121,116,101,115]=⟨#[32,98,121,116,101,115]⟩ from rfl] at e2
      generalize Ae:(T++Ab)++[32,98,121,116,101,115]=T2 at *
      have Ao:T2.length<=990000:=by rw[←Ae];simp only[Q5,Q6,Q8];omega
      have e3:=Aa6 (P:=Tryz.prog) T2 [32,110,117,108,108] (by simp;omega)
      rw[show str [32,110,117,108,108]=⟨#[32,110,117,108,108]⟩ from rfl] at e3
      generalize Ac:T2++[32,110,117,108,108]=T3 at *
      have An:T3.length<=995000:=by rw[←Ac];simp only[Q5,Q6,Q8];omega
      have e4:=Aa6 (P:=Tryz.prog) T3 [10] (by simp;omega)
      rw[show str [10]=⟨#[10]⟩ from rfl] at e4
      have Ad:Hid (str (T3++[10])=str (txC (cs.take (k+1)))):=Hd (by
       rw[Al.out,←Ac,←Ae]
       congr 1
       unfold colL Ce5 Ca3
       simp only[if_neg (show ¬(3:Int)=5 by decide),if_true,List.append_nil,List.append_assoc,List.cons_append,List.nil_append,Ba8]
       rw[Ai.out]
       rfl)
      clear Ac Ae  Ao An hT Al
      generalize str (T3++[10])=Aw at *
      generalize str T3=Ar at *
      generalize str T2=Bh at *
      generalize str (T++Ab)=Au at *
      generalize str T=As at *
      have Aa:=Ag.out
      rw[Aa] at e1
      clear Aa
      go_wp2_with fail
      go_roundw
      case rel=>exact⟨k+1,by rw[Ad.out],by go_num,hlt,(HB _).out,Aq _⟩
      case measure=>simp[intOf]<;>omega
   ·obtain rfl:sc=0:=Aj (by decide)
    clear Aj Ap Ak
    cases nu with
    | false=>
      have e1:=Aa6 (P:=Tryz.prog) T Ab (by omega)
      have e2:=Aa6 (P:=Tryz.prog) (T++Ab) [32,100,97,116,101] (by simp;omega)
      rw[show str [32,100,97,116,101]=⟨#[32,100,97,116,101]⟩ from rfl] at e2
      generalize Ae:(T++Ab)++[32,100,97,116,101]=T2 at *
      have Ao:T2.length<=990000:=by rw[←Ae];simp only[Q5,Q6,Q8];omega
      obtain⟨T3,Ac⟩:∃T3,T2=T3:=⟨_,rfl⟩
      have An:T3.length<=995000:=by rw[←Ac];omega
      rw[Ac] at e2
      have e4:=Aa6 (P:=Tryz.prog) T3 [10] (by simp;omega)
      rw[show str [10]=⟨#[10]⟩ from rfl] at e4
      have Ad:Hid (str (T3++[10])=str (txC (cs.take (k+1)))):=Hd (by
       rw[Al.out,←Ac,←Ae]
       congr 1
       unfold colL Ce5 Ca3
       simp only[if_neg (show ¬(4:Int)=5 by decide),Bool.false_eq_true,if_false,List.append_nil,List.append_assoc,List.cons_append,List.nil_append,Ba8]
       rw[Ai.out]
       rfl)
      clear Ac Ae  Ao An hT Al
      generalize str (T3++[10])=Aw at *
      generalize str T3=Ar at *
      generalize str (T++Ab)=Au at *
      generalize str T=As at *
      have Aa:=Ag.out
      rw[Aa] at e1
      clear Aa
      go_wp2_with fail
      go_roundw
      case rel=>exact⟨k+1,by rw[Ad.out],by go_num,hlt,(HB _).out,Aq _⟩
      case measure=>simp[intOf]<;>omega
    | true=>
      have e1:=Aa6 (P:=Tryz.prog) T Ab (by omega)
      have e2:=Aa6 (P:=Tryz.prog) (T++Ab) [32,100,97,116,101] (by simp;omega)
      rw[show str [32,100,97,116,101]=⟨#[32,100,97,116,101]⟩ from rfl] at e2
      generalize Ae:(T++Ab)++[32,100,97,116,101]=T2 at *
      have Ao:T2.length<=990000:=by rw[←Ae];simp only[Q5,Q6,Q8];omega
      have e3:=Aa6 (P:=Tryz.prog) T2 [32,110,117,108,108] (by simp;omega)
      rw[show str [32,110,117,108,108]=⟨#[32,110,117,108,108]⟩ from rfl] at e3
      generalize Ac:T2++[32,110,117,108,108]=T3 at *
      have An:T3.length<=995000:=by rw[←Ac];simp only[Q5,Q6,Q8];omega
      have e4:=Aa6 (P:=Tryz.prog) T3 [10] (by simp;omega)
      rw[show str [10]=⟨#[10]⟩ from rfl] at e4
      have Ad:Hid (str (T3++[10])=str (txC (cs.take (k+1)))):=Hd (by
       rw[Al.out,←Ac,←Ae]
       congr 1
       unfold colL Ce5 Ca3
       simp only[if_neg (show ¬(4:Int)=5 by decide),if_true,List.append_nil,List.append_assoc,List.cons_append,List.nil_append,Ba8]
       rw[Ai.out]
       rfl)
      clear Ac Ae  Ao An hT Al
      generalize str (T3++[10])=Aw at *
      generalize str T3=Ar at *
      generalize str T2=Bh at *
      generalize str (T++Ab)=Au at *
      generalize str T=As at *
      have Aa:=Ag.out
      rw[Aa] at e1
      clear Aa
      go_wp2_with fail
      go_roundw
      case rel=>exact⟨k+1,by rw[Ad.out],by go_num,hlt,(HB _).out,Aq _⟩
      case measure=>simp[intOf]<;>omega
   ·obtain⟨n,rfl⟩:∃n:Nat,sc=(n:Int):=⟨sc.toNat,by omega⟩
    have Ah:n<100:=by omega
    clear Aj Ap Ak
    cases nu with
    | false=>
      have e1:=Aa6 (P:=Tryz.prog) T Ab (by omega)
      have e0:=Aa6 (P:=Tryz.prog) [32,100,101,99,105,109,97,108,32] (scL n) (by have:=(Aq4 Ah).2;simp;omega)
      have e2:=Aa6 (P:=Tryz.prog) (T++Ab) ([32,100,101,99,105,109,97,108,32]++scL n) (by have:=(Aq4 Ah).2;simp;omega)
      rw[show str [32,100,101,99,105,109,97,108,32]=⟨#[32,100,101,99,105,109,97,108,32]⟩ from rfl] at e0
      have Bl:=(Aq4 Ah).2
      have Ax:=fun w=>Hd (Cr3 n w Ah)
      generalize Ae:(T++Ab)++([32,100,101,99,105,109,97,108,32]++scL n)=T2 at *
      generalize Ba:[32,100,101,99,105,109,97,108,32]++scL n=D0 at *
      have Ao:T2.length<=990000:=by rw[←Ae,←Ba];simp only[Q5,Q6,Q8];omega
      obtain⟨T3,Ac⟩:∃T3,T2=T3:=⟨_,rfl⟩
      have An:T3.length<=995000:=by rw[←Ac];omega
      rw[Ac] at e2
      have e4:=Aa6 (P:=Tryz.prog) T3 [10] (by simp;omega)
      rw[show str [10]=⟨#[10]⟩ from rfl] at e4
      have Ad:Hid (str (T3++[10])=str (txC (cs.take (k+1)))):=Hd (by
       rw[Al.out,←Ac,←Ae,←Ba]
       congr 1
       unfold colL Ce5 Ca3
       simp only[if_true,Int.toNat_natCast,Bool.false_eq_true,if_false,List.append_nil,List.append_assoc,List.cons_append,List.nil_append,Ba8]
       rw[Ai.out]
       rfl)
      clear Ac Ae Ba Bl Ao An hT Al
      generalize str (scL n)=SN at *
      generalize str D0=SD at *
      generalize str (T3++[10])=Aw at *
      generalize str T3=Ar at *
      generalize str (T++Ab)=Au at *
      generalize str T=As at *
      have Aa:=Ag.out
      rw[Aa] at e1
      clear Aa
      go_wp2_with fail
      refine(Ax _).out.mono ?_
      rintro e w' ⟨rfl,rfl⟩
      go_wp2_with fail
      go_roundw
      case rel=>exact⟨k+1,by rw[Ad.out],by go_num,hlt,(HB _).out,Aq _⟩
      case measure=>simp[intOf]<;>omega
    | true=>
      have e1:=Aa6 (P:=Tryz.prog) T Ab (by omega)
      have e0:=Aa6 (P:=Tryz.prog) [32,100,101,99,105,109,97,108,32] (scL n) (by have:=(Aq4 Ah).2;simp;omega)
      have e2:=Aa6 (P:=Tryz.prog) (T++Ab) ([32,100,101,99,105,109,97,108,32]++scL n) (by have:=(Aq4 Ah).2;simp;omega)
      rw[show str [32,100,101,99,105,109,97,108,32]=⟨#[32,100,101,99,105,109,97,108,32]⟩ from rfl] at e0
      have Bl:=(Aq4 Ah).2
      have Ax:=fun w=>Hd (Cr3 n w Ah)
      generalize Ae:(T++Ab)++([32,100,101,99,105,109,97,108,32]++scL n)=T2 at *
      generalize Ba:[32,100,101,99,105,109,97,108,32]++scL n=D0 at *
      have Ao:T2.length<=990000:=by rw[←Ae,←Ba];simp only[Q5,Q6,Q8];omega
      have e3:=Aa6 (P:=Tryz.prog) T2 [32,110,117,108,108] (by simp;omega)
      rw[show str [32,110,117,108,108]=⟨#[32,110,117,108,108]⟩ from rfl] at e3
      generalize Ac:T2++[32,110,117,108,108]=T3 at *
      have An:T3.length<=995000:=by rw[←Ac];simp only[Q5,Q6,Q8];omega
      have e4:=Aa6 (P:=Tryz.prog) T3 [10] (by simp;omega)
      rw[show str [10]=⟨#[10]⟩ from rfl] at e4
      have Ad:Hid (str (T3++[10])=str (txC (cs.take (k+1)))):=Hd (by
       rw[Al.out,←Ac,←Ae,←Ba]
       congr 1
       unfold colL Ce5 Ca3
       simp only[if_true,Int.toNat_natCast,List.append_assoc,List.cons_append,List.nil_append,Ba8]
       rw[Ai.out]
       rfl)
      clear Ac Ae Ba Bl Ao An hT Al
      generalize str (scL n)=SN at *
      generalize str D0=SD at *
      generalize str (T3++[10])=Aw at *
      generalize str T3=Ar at *
      generalize str T2=Bh at *
      generalize str (T++Ab)=Au at *
      generalize str T=As at *
      have Aa:=Ag.out
      rw[Aa] at e1
      clear Aa
      go_wp2_with fail
      refine(Ax _).out.mono ?_
      rintro e w' ⟨rfl,rfl⟩
      go_wp2_with fail
      go_roundw
      case rel=>exact⟨k+1,by rw[Ad.out],by go_num,hlt,(HB _).out,Aq _⟩
      case measure=>simp[intOf]<;>omega
  ·obtain rfl:k=cs.length:=by omega
   obtain⟨kn,rfl⟩:=Int.eq_ofNat_of_zero_le Bz
   have Bv:kn<cs.length:=by omega
   obtain⟨ad,rfl,Bm,Be⟩:=HX.out kn Bv
   obtain⟨q0,q1,q2,q3⟩:=Be.below hB Bm
   have Bn:=(Bi kn Bv).out.nm_size.2
   have Bs:=HF
   obtain⟨l0,l1,_,_⟩:=Bk.out
   have Bx:Hid (Bc3 cs (kn:Int)=txC (cs.take cs.length)++[107,101,121,32]++(cs.getD kn col0).nm.data.toList++[10]):=Hd (by
    unfold Bc3
    rw[List.take_length,Int.toNat_natCast]
    simp[Fh6])
   clear HX Bi Ay Bk Be HF hlt
   generalize cs.getD kn col0=C at *
   obtain⟨NM,ty,sc,nu⟩:=C
   simp only at Bn q0
   obtain⟨Ab,Af⟩:∃l:List UInt8,l=NM.data.toList:=⟨_,rfl⟩
   have Ca:Ab.length<=16:=by rw[Af,Aa1];exact Bn
   have Ag:=Hd (show str Ab=NM from by rw[Af];rfl)
   have Bd:Hid (Bc3 cs (kn:Int)=txC (cs.take cs.length)++[107,101,121,32]++Ab++[10]):=Hd (by rw[Af];exact Bx.out)
   clear Af Bx Bn
   have hT:(txC (cs.take cs.length)).length<=480:=by omega
   generalize txC (cs.take cs.length)=T at *
   have e1:=Aa6 (P:=Tryz.prog) T [107,101,121,32] (by simp;omega)
   have e2:=Aa6 (P:=Tryz.prog) (T++[107,101,121,32]) Ab (by simp;omega)
   have e3:=Aa6 (P:=Tryz.prog) (T++[107,101,121,32]++Ab) [10] (by simp;omega)
   rw[show str [107,101,121,32]=⟨#[107,101,121,32]⟩ from rfl] at e1
   rw[show str [10]=⟨#[10]⟩ from rfl] at e3
   rw[Ag.out] at e2
   have Bo:Hid (FT cs (kn:Int)=str (T++[107,101,121,32]++Ab++[10])):=Hd (by rw[Bs.out,Bd.out])
   clear Bs Bd Ag hT Bu q1 q2 q3
   generalize str (T++[107,101,121,32]++Ab++[10])=S3 at *
   generalize str (T++[107,101,121,32]++Ab)=S2 at *
   generalize str (T++[107,101,121,32])=S1 at *
   generalize str T=S0 at *
   go_wp2_with fail
   go_ret2
   exact RetB.mk (by rw[Bo.out,By.out];rfl) hB
end Go.P

namespace Go.SC
open RowKit VB VL
end Go.SC
namespace Go.P
open RowKit VB VL SC
end Go.P
namespace Go.SC
open RowKit VB VL
end Go.SC
namespace Go.P
open RowKit VB VL SC
end Go.P
namespace Go.SC
open RowKit VB VL
end Go.SC
namespace Go.P
open RowKit VB VL SC
end Go.P
namespace Go.SC
open RowKit VB VL
theorem Dx6:∀n:Fin 10,(⟨#[48,49,50,51,52,53,54,55,56,57,97,98,99,100,101,102,103,104,105,106,107,108,109,110,111,112,113,114,115,116,117,118,119,120,121,122]⟩:ByteArray).extract n.val (n.val+1)=str [UInt8.ofNat (48+n.val)]:=by decide +kernel
def Er7:List UInt8:=(List.range 100).flatMap fun n=>[UInt8.ofNat (48+n/10),UInt8.ofNat (48+n%10)]
theorem Cy8:∀n:Fin 100,(str Er7).extract (n.val*2) (n.val*2+2)=str [UInt8.ofNat (48+n.val/10),UInt8.ofNat (48+n.val%10)]:=by decide +kernel
theorem Ap0(w:World)(k:Nat)(a:Addr):(w.drewN k).cell? a=w.cell? a:=by
 induction k generalizing w with
 | zero=>rfl
 | succ k ih=>exact ih w
end Go.SC
namespace Go.P
open RowKit VB VL SC
theorem Dk8(n:Nat)(w:World)(hn:n<100):Calls Tryz.prog 248 #[.int .i64 (n:Int)] w (Ret (.string (str (scL n))) w):=by
 by_cases h:n<10
 ·have HC:=Hd (show(⟨#[48,49,50,51,52,53,54,55,56,57,97,98,99,100,101,102,103,104,105,106,107,108,109,110,111,112,113,114,115,116,117,118,119,120,121,122]⟩:ByteArray).extract n (n+1)=str (scL n) from by rw[By4 h];exact Dx6 ⟨n,h⟩)
  generalize str (scL n)=R at *
  go_enter Tryz.func248,Tryz.ntmps248
  go_wp2
  go_ret
  exact Ret.mk (by rw[←HC.out];rfl)
 ·have HC:=Hd (show(str Er7).extract (n*2) (n*2+2)=str (scL n) from by rw[Dl3 h];exact Cy8 ⟨n,hn⟩)
  generalize str (scL n)=R at *
  go_enter Tryz.func248,Tryz.ntmps248
  go_wp2
  go_ret
  exact Ret.mk (by rw[←HC.out];rfl)
theorem El1(n:Nat)(w:World)(hn:n<100):Calls Tryz.prog 226 #[.int .i64 (n:Int),.int .i64 10] w (Ret (.string (str (scL n))) w):=by
 have hH:=Hd (Dk8 n w hn)
 generalize str (scL n)=S at *
 go_enter Tryz.func226,Tryz.ntmps226
 go_wp2_with fail
 refine hH.out.mono ?_
 rintro e w' ⟨rfl,rfl⟩
 go_wp2_with fail
 go_ret
 exact Ret.mk rfl
theorem Ds4(n:Nat)(w:World)(hn:n<100):Calls Tryz.prog 193 #[.int .i64 (n:Int)] w (Ret (.string (str (scL n))) w):=by
 have hH:=Hd (El1 n w hn)
 generalize str (scL n)=S at *
 go_enter Tryz.func193,Tryz.ntmps193
 go_wp2_with fail
 refine hH.out.mono ?_
 rintro e w' ⟨rfl,rfl⟩
 go_wp2_with fail
 go_ret
 exact Ret.mk rfl
theorem Ej1(n:Nat)(w:World)(hn:n<100):Calls Tryz.prog 153 #[.int .i64 (n:Int)] w (Ret (.string (str (scL n))) w):=by
 have hH:=Hd (Ds4 n w hn)
 generalize str (scL n)=S at *
 go_enter Tryz.func153,Tryz.ntmps153
 go_wp2_with fail
 refine hH.out.mono ?_
 rintro e w' ⟨rfl,rfl⟩
 go_wp2_with fail
 go_ret
 exact Ret.mk rfl
theorem El4(c:Col)(w:World)(Ak:CV c):Calls Tryz.prog 111 #[c.val] w (RetB (.string (str (colL c))) w):=by
 obtain⟨nm,ty,sc,nu⟩:=c
 obtain⟨Ag,Ad⟩:=Ak.nm_size
 have Aj:=Di9 Ak.ty
 obtain⟨_,_,Af,Ac,_⟩:=Ak
 simp only at Ag Ad Aj Af Ac
 obtain⟨Aa,Ab⟩:∃l:List UInt8,l=nm.data.toList:=⟨_,rfl⟩
 have Al:Aa.length<=16:=by rw[Ab,Aa1];exact Ad
 have Ah:str Aa=nm:=by rw[Ab];rfl
 obtain⟨n,rfl⟩:∃n:Nat,sc=(n:Int):=⟨sc.toNat,by omega⟩
 have Ae:n<100:=by omega
 have An:=(Aq4 Ae).2
 have HW:=fun w=>Hd (Bm6 ty w)
 have HI:=fun w=>Hd (Ej1 n w Ae)
 have Ai:str (twL ty)=Br9 ty:=rfl
 have e1:=Aa6 (P:=Tryz.prog) Aa [32] (by simp;omega)
 have e2:=Aa6 (P:=Tryz.prog) (Aa++[32]) (twL ty) (by simp;omega)
 have e3:=Aa6 (P:=Tryz.prog) [32] (scL n) (by simp;omega)
 have e4:=Aa6 (P:=Tryz.prog) (Aa++[32]++twL ty) ([32]++scL n) (by simp;omega)
 rw[Ah,show str [32]=⟨#[32]⟩ from rfl] at e1
 rw[Ai] at e2
 rw[show str [32]=⟨#[32]⟩ from rfl] at e3
 by_cases h5:ty=5
 ·have hd:(ty==5)=true:=Bm4 h5
  have e5:=Aa6 (P:=Tryz.prog) (Aa++[32]++twL ty++([32]++scL n)) [32,110,117,108,108] (by simp;omega)
  rw[show str [32,110,117,108,108]=⟨#[32,110,117,108,108]⟩ from rfl] at e5
  have HE:Hid (colL ⟨nm,ty,(n:Int),nu⟩=if nu then Aa++[32]++twL ty++([32]++scL n)++[32,110,117,108,108] else Aa++[32]++twL ty++([32]++scL n)):=Hd (by
   unfold colL Ce5 Ca3
   simp only[if_pos h5,Int.toNat_natCast]
   rw[←Ab]
   cases nu<;>simp[Ba8])
  clear Ab Ah h5 Ai Ag Ad Al An Aj Af Ac
  have hV:=Var4.new w (.string nm) (.int .i64 ty) (.int .i64 (n:Int)) (.bool nu) 62
  have hB:Below w.heap.size w (w.alloc (.cells #[.string nm,.int .i64 ty,.int .i64 (n:Int),.bool nu] 62)):=(Q2 _ _).alloc (Q1 _) _
  obtain⟨k0,k1,k2,k3⟩:=hV
  unfold Col.val
  simp only
  generalize str (scL n)=SN at *
  generalize str ([32]++scL n)=SD at *
  generalize Br9 ty=TW at *
  cases nu with
  | true=>
    simp only[if_true] at HE
    rw[HE.out]
    generalize str (Aa++[32]++twL ty++([32]++scL n)++[32,110,117,108,108])=S5 at *
    generalize str (Aa++[32]++twL ty++([32]++scL n))=S4 at *
    generalize str (Aa++[32]++twL ty)=S2 at *
    generalize str (Aa++[32])=S1 at *
    go_enter Tryz.func111,Tryz.ntmps111
    go_wp2_with fail
    generalize w.alloc (.cells #[.string nm,.int .i64 ty,.int .i64 (n:Int),.bool true] 62)=w1 at *
    go_quiet(first | (go_at_call 137;refine Bh4 (HW _).out))
    replace hB:=Go.below_drewN hB nq
    have kk:=fun a=>Ap0 w1 nq a
    rw[←kk] at k0 k1 k2 k3
    clear kk
    generalize w1.drewN nq=w2 at *
    go_wp2_with fail
    refine(HI _).out.mono ?_
    rintro e w' ⟨rfl,rfl⟩
    go_wp2_with fail
    go_ret
    exact RetB.mk rfl hB
  | false=>
    simp only[Bool.false_eq_true,if_false] at HE
    rw[HE.out]
    clear e5
    generalize str (Aa++[32]++twL ty++([32]++scL n))=S4 at *
    generalize str (Aa++[32]++twL ty)=S2 at *
    generalize str (Aa++[32])=S1 at *
    go_enter Tryz.func111,Tryz.ntmps111
    go_wp2_with fail
    generalize w.alloc (.cells #[.string nm,.int .i64 ty,.int .i64 (n:Int),.bool false] 62)=w1 at *
    go_quiet(first | (go_at_call 137;refine Bh4 (HW _).out))
    replace hB:=Go.below_drewN hB nq
    have kk:=fun a=>Ap0 w1 nq a
    rw[←kk] at k0 k1 k2 k3
    clear kk
    generalize w1.drewN nq=w2 at *
    go_wp2_with fail
    refine(HI _).out.mono ?_
    rintro e w' ⟨rfl,rfl⟩
    go_wp2_with fail
    go_ret
    exact RetB.mk rfl hB
 ·have hd:(ty==5)=false:=Ab3 h5
  have e5:=Aa6 (P:=Tryz.prog) (Aa++[32]++twL ty) [32,110,117,108,108] (by simp;omega)
  rw[show str [32,110,117,108,108]=⟨#[32,110,117,108,108]⟩ from rfl] at e5
  have HE:Hid (colL ⟨nm,ty,(n:Int),nu⟩=if nu then Aa++[32]++twL ty++[32,110,117,108,108] else Aa++[32]++twL ty):=Hd (by
   unfold colL Ce5 Ca3
   simp only[if_neg h5]
   rw[←Ab]
   cases nu<;>simp[Ba8])
  clear Ab Ah h5 Ai Ag Ad Al An Aj Af Ac e3 e4 HI
  have hV:=Var4.new w (.string nm) (.int .i64 ty) (.int .i64 (n:Int)) (.bool nu) 62
  have hB:Below w.heap.size w (w.alloc (.cells #[.string nm,.int .i64 ty,.int .i64 (n:Int),.bool nu] 62)):=(Q2 _ _).alloc (Q1 _) _
  obtain⟨k0,k1,k2,k3⟩:=hV
  unfold Col.val
  simp only
  generalize Br9 ty=TW at *
  cases nu with
  | true=>
    simp only[if_true] at HE
    rw[HE.out]
    generalize str (Aa++[32]++twL ty++[32,110,117,108,108])=S5 at *
    generalize str (Aa++[32]++twL ty)=S2 at *
    generalize str (Aa++[32])=S1 at *
    go_enter Tryz.func111,Tryz.ntmps111
    go_wp2_with fail
    generalize w.alloc (.cells #[.string nm,.int .i64 ty,.int .i64 (n:Int),.bool true] 62)=w1 at *
    go_quiet(first | (go_at_call 137;refine Bh4 (HW _).out))
    replace hB:=Go.below_drewN hB nq
    have kk:=fun a=>Ap0 w1 nq a
    rw[←kk] at k0 k1 k2 k3
    clear kk
    generalize w1.drewN nq=w2 at *
    go_wp2_with fail
    go_ret
    exact RetB.mk rfl hB
  | false=>
    simp only[Bool.false_eq_true,if_false] at HE
    rw[HE.out]
    clear e5
    generalize str (Aa++[32]++twL ty)=S2 at *
    generalize str (Aa++[32])=S1 at *
    go_enter Tryz.func111,Tryz.ntmps111
    go_wp2_with fail
    generalize w.alloc (.cells #[.string nm,.int .i64 ty,.int .i64 (n:Int),.bool false] 62)=w1 at *
    go_quiet(first | (go_at_call 137;refine Bh4 (HW _).out))
    replace hB:=Go.below_drewN hB nq
    have kk:=fun a=>Ap0 w1 nq a
    rw[←kk] at k0 k1 k2 k3
    clear kk
    generalize w1.drewN nq=w2 at *
    go_wp2_with fail
    go_ret
    exact RetB.mk rfl hB
theorem Dd4(cs:List Col)(v:Value)(key:Int)(W:World)(hr:RdC W W.heap.size v cs):
   Calls Tryz.prog 74 #[.agg #[v,.int .i64 key]] W (RetB (.tuple #[.string (FT cs key),.int .i64 (Ad9 cs key:Nat)]) W):=by
 have Ad:=Var2.new W v (.int .i64 key) 24
 have Ai:Below W.heap.size W (W.alloc (.cells #[v,.int .i64 key] 24)):=(Q2 _ _).alloc (Q1 _) _
 have Aj:=Hd (Cd4 cs v key _ (hr.below Ai |>.more Ai.size))
 obtain⟨A,c,rfl,hc,hm,Bb⟩:=hr
 have hX:∀j,j<cs.length->∃ad,A=some ad/\ad.block<W.heap.size/\At4 W ad j (cs.getD j col0):=Bb
 clear Bb
 unfold maxLen at hm
 have HX:=Hd hX;clear hX
 by_cases he:Ad9 cs key=0
 rotate_left
 ·have hF:=Cx5 he
  rw[hF]
  have hd:((Ad9 cs key:Int)!=0)=true:=Ab5 (by omega)
  clear hF he HX
  generalize Ad9 cs key=E at *
  obtain⟨l0,l1,_,_⟩:=Ad
  go_enter Tryz.func74,Tryz.ntmps74
  go_wp2_with fail
  refine Aj.out.mono ?_
  rintro e w1 ⟨rfl,Af⟩
  go_wp2_with fail
  go_ret2
  exact RetB.mk rfl (Aa0 Ai Af)
 have hF:=Eq9 he
 have Ak:=fun i(hi:i<cs.length)=>Hd (En8 he hi)
 have Ac:=Hd (Br8 he)
 obtain⟨Bo,Bn,_,Bh,Bk⟩:=Ad7 he
 have HF:=Hd hF
 have Be:=Hd he
 rw[he] at Aj
 clear hF he
 obtain⟨l0,l1,_,_⟩:=id Ad
 go_enter Tryz.func74,Tryz.ntmps74
 go_wp2_with fail
 refine Aj.out.mono ?_
 rintro e w1 ⟨rfl,Af⟩
 have Aw:=Aa0 Ai Af
 have Au:=Ad.step Af
 clear l0 l1 Ai Ad Aj Af
 obtain⟨l0,l1,_,_⟩:=id Au
 go_wp2_with fail
 clear l0 l1
 go_loopw[5,7,16] (fun t _ j wr=>∃k:Nat,t=.string (str (txC (cs.take k)))/\j=.int .i64 k/\k<=cs.length/\Below W.heap.size W wr/\Hid (Var2 wr W.heap.size (.slice A cs.length c) (.int .i64 key))) (fun _ _ j _=>cs.length-(intOf j).toNat)
 case atStart=>exact⟨0,rfl,rfl,Nat.zero_le _,Aw,Hd Au⟩
 case round=>
  clear Aw Au
  obtain⟨k,rfl,rfl,hk,hB,An⟩:=hrel
  have Ay:=Ac.out k hk
  by_cases hlt:k<cs.length
  ·obtain⟨ad,rfl,Aq,Ah⟩:=HX.out k hlt
   obtain⟨q0,q1,q2,q3⟩:=Ah.below hB Aq
   have Ap:=(Ak k hlt).out
   have Bc:=Hd (Bd4 hlt)
   clear HX Ak Ac HF Be Ah
   generalize cs.getD k col0=C at *
   have Bi:=colL_len Ap
   have Al:=fun w=>Hd (El4 C w Ap)
   have e1:=Aa6 (P:=Tryz.prog) (colL C) [10] (by simp;omega)
   have e2:=Aa6 (P:=Tryz.prog) (txC (cs.take k)) (colL C++[10]) (by simp;omega)
   rw[show str [10]=⟨#[10]⟩ from rfl] at e1
   rw[←Bc.out] at e2
   have HB:=fun o w2(hb:Below (wr.alloc o).heap.size (wr.alloc o) w2)=>Hd (Aa0 (hB.alloc hB.size o) hb)
   have Ba:=fun o w2(hb:Below (wr.alloc o).heap.size (wr.alloc o) w2)=>Hd ((An.out.step ((Q2 _ _).alloc (Q1 _) o)).step hb)
   clear Ap Bi Ay Bc hB An
   generalize str (colL C++[10])=SL at *
   generalize str (colL C)=Bl at *
   generalize Bf:str (txC (cs.take (k+1)))=SN at *
   have Bg:=Hd Bf
   clear Bf
   generalize str (txC (cs.take k))=ST at *
   obtain⟨nm,ty,sc,nu⟩:=C
   unfold Col.val at Al
   simp only at q0 q1 q2 q3 Al
   go_wp2_with fail
   refine(Al _).out.mono ?_
   rintro e w2 ⟨rfl,Ao⟩
   have Bj:=(HB _ _ Ao).out
   have Ad:=Ba _ _ Ao
   clear HB Ba Ao Al q0 q1 q2 q3
   go_wp2_with fail
   go_roundw
   case rel=>exact⟨k+1,by rw[Bg.out],by go_num,hlt,Bj,Ad⟩
   case measure=>simp[intOf]<;>omega
  ·obtain rfl:k=cs.length:=by omega
   obtain⟨kn,rfl⟩:=Int.eq_ofNat_of_zero_le Bh
   have Az:kn<cs.length:=by omega
   obtain⟨ad,rfl,Aq,Ah⟩:=HX.out kn Az
   obtain⟨q0,q1,q2,q3⟩:=Ah.below hB Aq
   have Ar:=(Ak kn Az).out.nm_size.2
   have Ax:=HF
   obtain⟨l0,l1,_,_⟩:=An.out
   have Bd:Hid (Bc3 cs (kn:Int)=txC (cs.take cs.length)++[107,101,121]++[32]++(cs.getD kn col0).nm.data.toList++[10]):=Hd (by
    unfold Bc3
    rw[List.take_length,Int.toNat_natCast]
    simp[Fh6])
   clear HX Ak Ac An Ah HF hlt
   generalize cs.getD kn col0=C at *
   obtain⟨NM,ty,sc,nu⟩:=C
   simp only at Ar q0
   obtain⟨Ab,Aa⟩:∃l:List UInt8,l=NM.data.toList:=⟨_,rfl⟩
   have Bm:Ab.length<=16:=by rw[Aa,Aa1];exact Ar
   have Ae:=Hd (show str Ab=NM from by rw[Aa];rfl)
   have Ag:Hid (Bc3 cs (kn:Int)=txC (cs.take cs.length)++[107,101,121]++[32]++Ab++[10]):=Hd (by rw[Aa];exact Bd.out)
   clear Aa Bd Ar
   have hT:(txC (cs.take cs.length)).length<=480:=by omega
   generalize txC (cs.take cs.length)=T at *
   have e1:=Aa6 (P:=Tryz.prog) T [107,101,121] (by simp;omega)
   have e2:=Aa6 (P:=Tryz.prog) (T++[107,101,121]) [32] (by simp;omega)
   have e3:=Aa6 (P:=Tryz.prog) (T++[107,101,121]++[32]) Ab (by simp;omega)
   have e4:=Aa6 (P:=Tryz.prog) (T++[107,101,121]++[32]++Ab) [10] (by simp;omega)
   rw[show str [107,101,121]=⟨#[107,101,121]⟩ from rfl] at e1
   rw[show str [32]=⟨#[32]⟩ from rfl] at e2
   rw[show str [10]=⟨#[10]⟩ from rfl] at e4
   rw[Ae.out] at e3
   have As:Hid (FT cs (kn:Int)=str (T++[107,101,121]++[32]++Ab++[10])):=Hd (by rw[Ax.out,Ag.out])
   clear Ax Ag Ae hT Ay q1 q2 q3
   generalize str (T++[107,101,121]++[32]++Ab++[10])=S4 at *
   generalize str (T++[107,101,121]++[32]++Ab)=S3 at *
   generalize str (T++[107,101,121]++[32])=S2 at *
   generalize str (T++[107,101,121])=S1 at *
   generalize str T=S0 at *
   go_wp2_with fail
   go_ret2
   exact RetB.mk (by rw[As.out,Be.out];rfl) hB
end Go.P

namespace Go.SC
open RowKit VB VL CR
def IDN(cs:List Col)(key:Int):Nat:=if Ad9 cs key=0 then sumL tab (Bc3 cs key) else 0
theorem Ec2{cs:List Col}{key:Int}(h:¬Ad9 cs key=0):IDN cs key=0:=if_neg h
theorem Bq6{cs:List Col}{key:Int}(h:Ad9 cs key=0):IDN cs key=sumL tab (Bc3 cs key):=if_pos h
theorem Ct5{cs:List Col}{key:Int}(h:Ad9 cs key=0):1<=(Bc3 cs key).length/\(Bc3 cs key).length<=600:=by
 obtain⟨_,Aa,_,k0,k1⟩:=Ad7 h
 have h1:=Br8 h cs.length (Q1 _)
 rw[List.take_length] at h1
 have h2:=(En8 h (i:=key.toNat) (by omega)).nm_size.2
 have h3:(cs.getD key.toNat col0).nm.data.toList.length=(cs.getD key.toNat col0).nm.size:=Aa1 _
 unfold Bc3 Fh6
 simp only[Q5,Q6,Q8]
 omega
end Go.SC
namespace Go.P
open RowKit VB VL SC CR
theorem Dn8(l:List UInt8)(w:World)(zs:l.length<=1000):Calls Tryz.prog 54 #[.string (str l)] w (RetB (.int .u32 (sumL tab l:Nat)) w):=by
 have hz:(str l).size<=140737488351232:=by rw[Aa3];omega
 go_enter Tryz.func54,Tryz.ntmps54
 go_wp2_with fail
 refine(Bn6 _).mono ?_
 rintro e w1 ⟨v,rfl,Aa,hB⟩
 go_wp2_with fail
 refine(Co7 v tab (str l) w1 Aa.read tab_lt hz).mono ?_
 rintro e w2 ⟨rfl,rfl⟩
 go_wp2
 go_ret
 exact RetB.mk rfl hB
theorem id_any(cs:List Col)(v:Value)(key:Int)(W:World)(hr:RdC W W.heap.size v cs):
   Calls Tryz.prog 35 #[.agg #[v,.int .i64 key]] W (RetB (.tuple #[.int .u32 (IDN cs key:Nat),.int .i64 (Ad9 cs key:Nat)]) W):=by
 have Af:=Var2.new W v (.int .i64 key) 24
 have Ac:Below W.heap.size W (W.alloc (.cells #[v,.int .i64 key] 24)):=(Q2 _ _).alloc (Q1 _) _
 have hF:=Hd (Dd4 cs v key _ (hr.below Ac |>.more Ac.size))
 obtain⟨A,c,rfl,_⟩:=hr
 obtain⟨l0,l1,_,_⟩:=Af
 by_cases he:Ad9 cs key=0
 ·have hI:=Hd (Bq6 he)
  rw[Eq9 he] at hF
  have hz:(str (Bc3 cs key)).size<=140737488351232:=by have:=(Ct5 he).2;rw[Aa3];omega
  have hd:((Ad9 cs key:Int)!=0)=false:=Ca9 (by omega)
  have hS:=fun vt w(h:RdN .u32 w w.heap.size vt tab)=>Hd (Bv8 vt tab (str (Bc3 cs key)) w h tab_lt hz)
  have Ab:sumL tab (str (Bc3 cs key)).data.toList=sumL tab (Bc3 cs key):=rfl
  rw[Ab] at hS
  have Ah:=Hd he
  rw[he] at hF
  clear he hz Ab hd
  generalize sumL tab (Bc3 cs key)=M at *
  generalize str (Bc3 cs key)=S at *
  go_enter Tryz.func35,Tryz.ntmps35
  go_wp2_with fail
  refine hF.out.mono ?_
  rintro e w1 ⟨rfl,Ad⟩
  go_wp2_with fail
  refine(As8 _).mono ?_
  rintro e w2 ⟨vt,rfl,Aa,Ag⟩
  have Ae:=Hd (hS vt w2 Aa.read).out
  obtain⟨At,ct,rfl,_⟩:=Aa.read
  go_wp2_with fail
  refine Ae.out.mono ?_
  rintro e w' ⟨rfl,rfl⟩
  go_wp2_with fail
  go_ret2
  exact RetB.mk (by rw[hI.out,Ah.out];rfl) (Aa0 (Aa0 Ac Ad) Ag)
 ·have hI:=Hd (Ec2 he)
  rw[Cx5 he] at hF
  have hd:((Ad9 cs key:Int)!=0)=true:=Ab5 (by omega)
  clear he
  go_enter Tryz.func35,Tryz.ntmps35
  go_wp2_with fail
  refine hF.out.mono ?_
  rintro e w1 ⟨rfl,Ad⟩
  go_wp2_with fail
  go_ret2
  exact RetB.mk (by rw[hI.out];rfl) (Aa0 Ac Ad)
theorem Dm8(cs:List Col)(v:Value)(key:Int)(W:World)(hr:RdC W W.heap.size v cs):
   Calls Tryz.prog 45 #[.agg #[v,.int .i64 key]] W (RetB (.tuple #[.int .u32 (IDN cs key:Nat),.int .i64 (Ad9 cs key:Nat)]) W):=by
 have Ad:=Var2.new W v (.int .i64 key) 24
 have Aa:Below W.heap.size W (W.alloc (.cells #[v,.int .i64 key] 24)):=(Q2 _ _).alloc (Q1 _) _
 have hF:=Hd (Cg2 cs v key _ (hr.below Aa |>.more Aa.size))
 obtain⟨A,c,rfl,_⟩:=hr
 obtain⟨l0,l1,_,_⟩:=Ad
 by_cases he:Ad9 cs key=0
 ·have hI:=Hd (Bq6 he)
  rw[Eq9 he] at hF
  have hS:=fun w=>Hd (Dn8 (Bc3 cs key) w (by have:=(Ct5 he).2;omega))
  have Ae:=Hd he
  rw[he] at hF
  clear he
  generalize sumL tab (Bc3 cs key)=M at *
  generalize str (Bc3 cs key)=S at *
  go_enter Tryz.func45,Tryz.ntmps45
  go_wp2_with fail
  refine hF.out.mono ?_
  rintro e w1 ⟨rfl,Ab⟩
  go_wp2_with fail
  refine(hS _).out.mono ?_
  rintro e w2 ⟨rfl,Ac⟩
  go_wp2_with fail
  go_ret2
  exact RetB.mk (by rw[hI.out,Ae.out];rfl) (Aa0 (Aa0 Aa Ab) Ac)
 ·have hI:=Hd (Ec2 he)
  rw[Cx5 he] at hF
  have hd:((Ad9 cs key:Int)!=0)=true:=Ab5 (by omega)
  clear he
  go_enter Tryz.func45,Tryz.ntmps45
  go_wp2_with fail
  refine hF.out.mono ?_
  rintro e w1 ⟨rfl,Ab⟩
  go_wp2_with fail
  go_ret2
  exact RetB.mk (by rw[hI.out];rfl) (Aa0 Aa Ab)
end Go.P
