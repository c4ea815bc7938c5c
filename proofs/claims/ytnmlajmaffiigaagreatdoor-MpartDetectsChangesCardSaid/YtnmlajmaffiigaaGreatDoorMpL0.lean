/- The first words of the laws of layer 16: one. -/
import Derived.Test.YtnmlajmaffiigaaGreatDoorMpa
import Derived.Test.YtnmlajmaffiigaaGreatDoorBt7b
import Derived.Test.YtnmlajmaffiigaaGreatDoorLaid
set_option linter.constructorNameAsVariable false
set_option maxRecDepth 100000
set_option maxHeartbeats 400000
open Go Go.Proofs Go.Proofs.YtnmlajmaffiigaaGreatDoor Go.P
namespace Go.MP
open RowKit VB VarM VS VL SC CK Go.ST MK RS ZN
def r74:Rc:=⟨4,[⟨false,7,⟨#[]⟩⟩]⟩
theorem Ew7:Ag3 [Bw9] r74=true:=by decide +kernel
theorem Cf9:Ak3 [Bw9] 0 [r74]=true:=by
 rw[Aw9 (Br6 Eo5 fun k r h=>by
  match k,h with
  | 0,h=>cases h;exact Ew7)]
 refine Bw7 fun i a b h1 h2=>?_
 match i,h1,h2 with
 | 0,h1,h2=>cases h2
theorem Fc3:InR [r74]:=by
 intro r hr x hx
 rw[List.mem_singleton.1 hr] at hx
 rw[List.mem_singleton.1 (show x∈[(⟨false,7,⟨#[]⟩⟩:Vl)] from hx)]
 exact⟨by decide,by decide⟩
theorem Eu4:An6 [Bw9] 0 [r74]=0:=Bv1 (by decide) (by decide) Cf9
def OneR(w:World):Ending->World->Prop:=fun en w'=>∃v x,en=.returned (.tuple #[.agg #[v,.int .i64 0],x])/\RdC w' w'.heap.size v [Bw9]/\RdR w' w'.heap.size x [r74]/\Below w.heap.size w w'
end Go.MP
namespace Go.P
open RowKit VB VarM BP VS VL SC CK Go.ST MK RS ZN MP
def Eq7(_:World):Prop:=True
theorem Au3{W:World}{laid:List (String×DataW Unit)}(_:laidMetH Tryz.prog laid W):Eq7 W:=trivial
theorem Dp2(w:World):Calls Tryz.prog 13 #[] w (OneR w):=by
 have Ak:Below w.heap.size w (w.alloc (.cells #[.slice (some ⟨w.heap.size+1,0,none⟩) 1 1,.int .i64 0] 24)):=(Q2 _ _).alloc (Q1 _) _
 have Ah:(w.alloc (.cells #[.slice (some ⟨w.heap.size+1,0,none⟩) 1 1,.int .i64 0] 24)).heap.size=w.heap.size+1:=by simp
 obtain⟨X1,Ao⟩:∃X,w.alloc (.cells #[.slice (some ⟨w.heap.size+1,0,none⟩) 1 1,.int .i64 0] 24)=X:=⟨_,rfl⟩
 rw[Ao] at Ak Ah
 have Aj:=(Q2 X1.heap.size X1).alloc (Q1 _) (.cells #[.string ⟨#[97]⟩,.int .i64 1,.int .i64 0,.bool false] 62)
 have Ag:(X1.alloc (.cells #[.string ⟨#[97]⟩,.int .i64 1,.int .i64 0,.bool false] 62)).heap.size=w.heap.size+2:=by simp[Ah]
 have Aa:OwnC 62 (X1.alloc (.cells #[.string ⟨#[97]⟩,.int .i64 1,.int .i64 0,.bool false] 62)) X1.heap.size (.slice (some ⟨X1.heap.size,0,none⟩) 1 1) [Bw9]:=
  World.ownsRow_lit (base:=X1.heap.size) (e:=62) (size:=4) X1 #[.string ⟨#[97]⟩,.int .i64 1,.int .i64 0,.bool false] 1 (Q1 _) (by decide) rfl
 obtain⟨X2,An⟩:∃X,X1.alloc (.cells #[.string ⟨#[97]⟩,.int .i64 1,.int .i64 0,.bool false] 62)=X:=⟨_,rfl⟩
 rw[An] at Aj Ag Aa
 have Ae:=(Q2 X2.heap.size X2).alloc (Q1 _) (.cells #[.bool false,.int .i64 7,.string ⟨#[]⟩] 49)
 have Af:(X2.alloc (.cells #[.bool false,.int .i64 7,.string ⟨#[]⟩] 49)).heap.size=w.heap.size+3:=by simp[Ag]
 have Ad:=RdL.lit X2 [⟨false,7,⟨#[]⟩⟩] 1 49 (Q1 1) (by decide)
 change RdL (X2.alloc (.cells #[.bool false,.int .i64 7,.string ⟨#[]⟩] 49)) _ _ _ at Ad
 obtain⟨X3,Ai⟩:∃X,X2.alloc (.cells #[.bool false,.int .i64 7,.string ⟨#[]⟩] 49)=X:=⟨_,rfl⟩
 rw[Ai] at Ae Af Ad
 rw[Ag] at Ad
 have Ab:=(Q2 X3.heap.size X3).alloc (Q1 _) (.cells #[.int .i64 4,.slice (some ⟨w.heap.size+2,0,none⟩) 1 1] 67)
 have Ap:(X3.alloc (.cells #[.int .i64 4,.slice (some ⟨w.heap.size+2,0,none⟩) 1 1] 67)).heap.size=w.heap.size+4:=by simp[Af]
 have Ac:=RdK.lit (L:=recL) X3 [⟨4,⟨some ⟨w.heap.size+2,0,none⟩,1,1⟩⟩] 1 67 (Q1 1) (by decide)
 change RdK recL (X3.alloc (.cells #[.int .i64 4,.slice (some ⟨w.heap.size+2,0,none⟩) 1 1] 67)) _ _ _ at Ac
 obtain⟨X4,Al⟩:∃X,X3.alloc (.cells #[.int .i64 4,.slice (some ⟨w.heap.size+2,0,none⟩) 1 1] 67)=X:=⟨_,rfl⟩
 rw[Al] at Ab Ap Ac
 rw[Af] at Ac
 rw[Ah] at Aa
 have hC:=((OwnC.read Aa).step (Ae.trans (Ab.mono (by omega))))
 have hR:RdR X4 X4.heap.size (.slice (some ⟨w.heap.size+3,0,none⟩) 1 1) [r74]:=⟨_,by
  have h:=Ac.more (B':=X4.heap.size) (by omega)
  exact h,DeepR.one (p:=⟨4,⟨some ⟨w.heap.size+2,0,none⟩,1,1⟩⟩) (r:=r74) rfl ((Ad.below (Ab.mono (by omega))).more (by omega))⟩
 have HC:=Hd hC;have HR:=Hd hR
 have HB:=Hd (Ak.trans ((Aj.trans ((Ae.trans (Ab.mono (by omega))).mono (by omega))).mono (by omega)))
 have Aq:=Hd (show(((w.alloc (.cells #[.slice (some ⟨w.heap.size+1,0,none⟩) 1 1,.int .i64 0] 24)).alloc (.cells #[.string ⟨#[97]⟩,.int .i64 1,.int .i64 0,.bool false] 62)).alloc (.cells #[.bool false,.int .i64 7,.string ⟨#[]⟩] 49)).alloc (.cells #[.int .i64 4,.slice (some ⟨w.heap.size+2,0,none⟩) 1 1] 67)=X4 by rw[Ao,An,Ai,Al])
 clear hC hR Ak Aj Ae Ab Ah Ag Af Ap Aa Ad Ac Ao An Ai Al
 go_enter Tryz.func13,Tryz.ntmps13
 go_wp2
 refine bodyPost_ret (v:=.tuple #[.agg #[.slice (some ⟨w.heap.size+1,0,none⟩) 1 1,.int .i64 0],.slice (some ⟨w.heap.size+3,0,none⟩) 1 1]) (by simp[results,Tryz.results13,go_sem]) rfl ?_
 rw[Aq.out]
 exact⟨_,_,rfl,HC.out,HR.out,HB.out⟩
end Go.P
