/- Texts of one part, joined. -/
import Derived.Test.YtnmlajmaffiigaaGreatDoorGa
import Derived.BigQuiet
import Derived.BigRegion
import Derived.StillTailTactics
import Derived.Handy
import Derived.Deep.Slices
set_option linter.constructorNameAsVariable false
set_option maxRecDepth 100000
set_option maxHeartbeats 4000000
open Go Go.Proofs Go.Proofs.YtnmlajmaffiigaaGreatDoor Go.P
namespace Go.VL
open RowKit VB
def okP(ty n:Int)(s:ByteArray):Bool:=
 if ty=2 then decide (n=0\/n=1) else if ty=3 then decide (s.size<=64) else if ty=4 then decide (-719162<=n/\n<=2932896)
 else if ty=5 then decide (-999999999999999999<=n/\n<=999999999999999999) else true
def okT(ty:Int):Bool:=decide (1<=ty/\ty<=5)
def chk(ty:Int)(nu nul:Bool)(n:Int)(s:ByteArray):Nat:=
 if okT ty=false then 1
 else if nul then(if n≠0\/s.size≠0 then 11 else if nu then 0 else 12)
 else if(ty=3/\n≠0)\/(ty≠3/\s.size≠0) then 11
 else if okP ty n s then 0 else 4
theorem Dz6{ty n:Int}{nu Aa:Bool}{s:ByteArray}(h:okT ty=false):chk ty nu Aa n s=1:=if_pos h
theorem Bk8{ty n:Int}{nu:Bool}{s:ByteArray}(h:okT ty=true):chk ty nu true n s=if n≠0\/s.size≠0 then 11 else if nu then 0 else 12:=by
 unfold chk;rw[h];rfl
theorem Ap3{ty n:Int}{nu:Bool}{s:ByteArray}(h:okT ty=true):chk ty nu false n s=if(ty=3/\n≠0)\/(ty≠3/\s.size≠0) then 11 else if okP ty n s then 0 else 4:=by
 unfold chk;rw[h];rfl
theorem Bm4{a b:Int}(h:a=b):(a==b)=true:=beq_iff_eq.2 h
theorem Ab3{a b:Int}(h:¬a=b):(a==b)=false:=beq_eq_false_iff_ne.2 h
theorem Ab5{a b:Int}(h:¬a=b):(a !=b)=true:=by simp[bne,Ab3 h]
theorem Ca9{a b:Int}(h:a=b):(a !=b)=false:=by simp[bne,Bm4 h]
end Go.VL
namespace Go.VL
open RowKit VB
structure Var3(w:World)(b:Nat)(x y z:Value):Prop where
 c0:w.cell? ⟨b,0,none⟩=some x
 c1:w.cell? ⟨b,1,none⟩=some y
 c2:w.cell? ⟨b,2,none⟩=some z
 f0:w.frozen? ⟨b,0,none⟩=false
 f1:w.frozen? ⟨b,1,none⟩=false
 f2:w.frozen? ⟨b,2,none⟩=false
theorem Var3.new(w:World)(x y z:Value)(T:TypeId):Var3 (w.alloc (.cells #[x,y,z] T)) w.heap.size x y z:=by
 constructor<;>simp
theorem Var3.lt{w:World}{b:Nat}{x y z:Value}(h:Var3 w b x y z):b<w.heap.size:=World.block_lt_of_cell? w _ h.c0
theorem Var3.below{w w':World}{b B:Nat}{x y z:Value}(h:Var3 w b x y z)(hb:Below B w w')(hB:b<B):Var3 w' b x y z:=by
 constructor
 ·rw[hb.cell hB];exact h.c0
 ·rw[hb.cell hB];exact h.c1
 ·rw[hb.cell hB];exact h.c2
 ·rw[hb.frozen hB];exact h.f0
 ·rw[hb.frozen hB];exact h.f1
 ·rw[hb.frozen hB];exact h.f2
theorem Var3.step{w w':World}{b:Nat}{x y z:Value}(h:Var3 w b x y z)(hb:Below w.heap.size w w'):Var3 w' b x y z:=h.below hb h.lt
theorem Var3.set{w:World}{b:Nat}{x y z:Value}(h:Var3 w b x y z)(x' y' z':Value):Var3 (((w.setCell ⟨b,0,none⟩ x').setCell ⟨b,1,none⟩ y').setCell ⟨b,2,none⟩ z') b x' y' z':=by
 constructor
 ·rw[World.cell?_setCell_other _ _ _ _ (by simp),World.cell?_setCell_other _ _ _ _ (by simp),World.cell?_setCell_same _ _ _ h.c0]
 ·rw[World.cell?_setCell_other _ _ _ _ (by simp),World.cell?_setCell_same _ _ _ ((World.cell?_setCell_other _ _ _ _ (by simp)).trans h.c1)]
 ·rw[World.cell?_setCell_same _ _ _ ((World.cell?_setCell_other _ _ _ _ (by simp)).trans ((World.cell?_setCell_other _ _ _ _ (by simp)).trans h.c2))]
 ·rw[World.frozen?_setCell,World.frozen?_setCell,World.frozen?_setCell];exact h.f0
 ·rw[World.frozen?_setCell,World.frozen?_setCell,World.frozen?_setCell];exact h.f1
 ·rw[World.frozen?_setCell,World.frozen?_setCell,World.frozen?_setCell];exact h.f2
theorem Ae1{B:Nat}{w0 w:World}{b:Nat}(h:Below B w0 w)(hB:B<=b)(x y z:Value):Below B w0 (((w.setCell ⟨b,0,none⟩ x).setCell ⟨b,1,none⟩ y).setCell ⟨b,2,none⟩ z):=
 ((h.setCell (p:=⟨b,0,none⟩) hB x).setCell (p:=⟨b,1,none⟩) hB y).setCell (p:=⟨b,2,none⟩) hB z
structure Var4(w:World)(b:Nat)(x y z u:Value):Prop where
 c0:w.cell? ⟨b,0,none⟩=some x
 c1:w.cell? ⟨b,1,none⟩=some y
 c2:w.cell? ⟨b,2,none⟩=some z
 c3:w.cell? ⟨b,3,none⟩=some u
theorem Var4.new(w:World)(x y z u:Value)(T:TypeId):Var4 (w.alloc (.cells #[x,y,z,u] T)) w.heap.size x y z u:=by
 constructor<;>simp
theorem Var4.lt{w:World}{b:Nat}{x y z u:Value}(h:Var4 w b x y z u):b<w.heap.size:=World.block_lt_of_cell? w _ h.c0
theorem Var4.below{w w':World}{b B:Nat}{x y z u:Value}(h:Var4 w b x y z u)(hb:Below B w w')(hB:b<B):Var4 w' b x y z u:=by
 constructor
 ·rw[hb.cell hB];exact h.c0
 ·rw[hb.cell hB];exact h.c1
 ·rw[hb.cell hB];exact h.c2
 ·rw[hb.cell hB];exact h.c3
theorem Var4.step{w w':World}{b:Nat}{x y z u:Value}(h:Var4 w b x y z u)(hb:Below w.heap.size w w'):Var4 w' b x y z u:=h.below hb h.lt
end Go.VL
namespace Go.P
open RowKit VB VL
theorem Dc0(ty:Int)(w:World):Calls Tryz.prog 187 #[.int .i64 ty] w (Ret (.bool (okT ty)) w):=by
 by_cases h:1<=ty/\ty<=5
 ·have hv:okT ty=true:=Q4 h
  rw[hv];clear hv
  have h5:ty=1\/ty=2\/ty=3\/ty=4\/ty=5:=by omega
  clear h
  rcases h5 with rfl | rfl | rfl | rfl | rfl
  all_goals
   go_enter Tryz.func187,Tryz.ntmps187
   go_wp2
   go_ret
   exact Ret.mk rfl
 ·have hv:okT ty=false:=Q3 h
  rw[hv];clear hv
  have e1:(ty==1)=false:=Ab3 (by omega)
  have e2:(ty==2)=false:=Ab3 (by omega)
  have e3:(ty==3)=false:=Ab3 (by omega)
  have e4:(ty==4)=false:=Ab3 (by omega)
  have e5:(ty==5)=false:=Ab3 (by omega)
  clear h
  go_enter Tryz.func187,Tryz.ntmps187
  go_wp2
  go_ret
  exact Ret.mk rfl
theorem An0(ty:Int)(w:World):Calls Tryz.prog 73 #[.int .i64 ty] w (Ret (.bool (okT ty)) w):=by
 unfold okT
 by_cases h1:1<=ty
 ·by_cases h2:ty<=5
  ·rw[Q4 ⟨h1,h2⟩]
   go_enter Tryz.func73,Tryz.ntmps73
   go_wp2
   go_ret
   exact Ret.mk rfl
  ·rw[Q3 (fun h=>h2 h.2)]
   go_enter Tryz.func73,Tryz.ntmps73
   go_wp2
   go_ret
   exact Ret.mk rfl
 ·rw[Q3 (fun h=>h1 h.1)]
  go_enter Tryz.func73,Tryz.ntmps73
  go_wp2
  go_ret
  exact Ret.mk rfl
theorem Dc1(ty:Int)(Aa:Bool)(n:Int)(s:ByteArray)(w:World):Calls Tryz.prog 188 #[.int .i64 ty,(.agg #[.bool Aa,.int .i64 n,.string s])] w (RetB (.bool (okP ty n s)) w):=by
 by_cases h2:ty=2
 ·subst h2
  by_cases h0:n=0
  ·subst h0
   go_enter Tryz.func188,Tryz.ntmps188
   go_wp2
   go_ret
   exact RetB.mk rfl (by go_grown)
  ·by_cases h1:n=1
   ·subst h1
    go_enter Tryz.func188,Tryz.ntmps188
    go_wp2
    go_ret
    exact RetB.mk rfl (by go_grown)
   ·have hv:okP 2 n s=false:=Q3 (by omega)
    rw[hv]
    have e0:=Ab3 h0
    have e1:=Ab3 h1
    clear hv h0 h1
    go_enter Tryz.func188,Tryz.ntmps188
    go_wp2
    go_ret
    exact RetB.mk rfl (by go_grown)
 ·have e2:=Ab3 h2
  by_cases h3:ty=3
  ·subst h3
   have hv:okP 3 n s=decide (s.size<=64):=rfl
   rw[hv];clear hv
   go_enter Tryz.func188,Tryz.ntmps188
   go_wp2
   go_ret
   exact RetB.mk (by simp;omega) (by go_grown)
  ·have e3:=Ab3 h3
   by_cases h4:ty=4
   ·subst h4
    have hv:okP 4 n s=decide (-719162<=n/\n<=2932896):=rfl
    rw[hv];clear hv h2 h3 e2 e3
    by_cases g1:-719162<=n
    ·go_enter Tryz.func188,Tryz.ntmps188
     go_wp2
     go_ret
     exact RetB.mk (by simp[g1]) (by go_grown)
    ·rw[Q3 (fun h=>g1 h.1)]
     go_enter Tryz.func188,Tryz.ntmps188
     go_wp2
     go_ret
     exact RetB.mk rfl (by go_grown)
   ·have e4:=Ab3 h4
    by_cases h5:ty=5
    ·subst h5
     have hv:okP 5 n s=decide (-999999999999999999<=n/\n<=999999999999999999):=rfl
     rw[hv];clear hv h2 h3 h4 e2 e3 e4
     by_cases g1:-999999999999999999<=n
     ·go_enter Tryz.func188,Tryz.ntmps188
      go_wp2
      go_ret
      exact RetB.mk (by simp[g1]) (by go_grown)
     ·rw[Q3 (fun h=>g1 h.1)]
      go_enter Tryz.func188,Tryz.ntmps188
      go_wp2
      go_ret
      exact RetB.mk rfl (by go_grown)
    ·have e5:=Ab3 h5
     have hv:okP ty n s=true:=by unfold okP;rw[if_neg h2,if_neg h3,if_neg h4,if_neg h5]
     rw[hv];clear hv h2 h3 h4 h5
     go_enter Tryz.func188,Tryz.ntmps188
     go_wp2
     go_ret
     exact RetB.mk rfl (by go_grown)
end Go.P
namespace Go.VL
open RowKit VB
theorem Ba1{s:ByteArray}(h:s.size=0):s=⟨#[]⟩:=by
 apply ByteArray.ext
 apply Array.toList_inj.1
 exact List.eq_nil_of_length_eq_zero (by rw[Aa1];omega)
theorem Bn4{s:ByteArray}(h:¬s.size=0):s.toList.isEmpty=false:=by
 rw[ByteArray.toList_eq]
 cases hl:s.data.toList with
 | nil=>rw[←Aa1,hl] at h;exact absurd rfl h
 | cons _ _=>rfl
end Go.VL
namespace Go.P
open RowKit VB VL
theorem Bb3(nm:ByteArray)(ty sc:Int)(nu Aa:Bool)(n:Int)(s:ByteArray)(w:World):
   Calls Tryz.prog 149 #[(.agg #[.string nm,.int .i64 ty,.int .i64 sc,.bool nu]),(.agg #[.bool Aa,.int .i64 n,.string s])] w (RetB (.int .i64 (chk ty nu Aa n s:Nat)) w):=by
 have HT:=fun w=>Hd (Dc0 ty w)
 by_cases hT:okT ty=true
 ·rw[hT] at HT
  cases Aa
  ·rw[Ap3 hT]
   clear hT
   have HP:=fun w=>Hd (Dc1 ty false n s w)
   by_cases h3:ty=3
   ·subst h3
    by_cases hn:n=0
    ·subst hn
     rw[if_neg (by omega)]
     generalize okP 3 0 s=b at HP
     by_cases hs:s.size=0
     ·obtain rfl:=Ba1 hs
      clear hs
      cases b
      all_goals
       go_enter Tryz.func149,Tryz.ntmps149
       go_wp2_with(first | (go_at_call 187;refine(HT _).out.mono ?_;rintro e w' ⟨rfl,rfl⟩) | (go_at_call 188;refine(HP _).out.mono ?_;rintro e w' ⟨rfl,hb⟩))
       go_ret
       exact RetB.mk rfl (Aa0 (by go_grown) hb)
     ·have he:=Bn4 hs
      clear hs
      cases b
      all_goals
       go_enter Tryz.func149,Tryz.ntmps149
       go_wp2_with(first | (go_at_call 187;refine(HT _).out.mono ?_;rintro e w' ⟨rfl,rfl⟩) | (go_at_call 188;refine(HP _).out.mono ?_;rintro e w' ⟨rfl,hb⟩))
       go_ret
       exact RetB.mk rfl (Aa0 (by go_grown) hb)
    ·rw[if_pos (.inl ⟨rfl,hn⟩)]
     have e1:=Ab5 hn
     clear hn HP
     go_enter Tryz.func149,Tryz.ntmps149
     go_wp2_with(go_at_call 187;refine(HT _).out.mono ?_;rintro e w' ⟨rfl,rfl⟩)
     go_ret
     exact RetB.mk rfl (by go_grown)
   ·have e3:=Ab3 h3
    have f3:=Ab5 h3
    by_cases hs:s.size=0
    ·rw[if_neg (by omega)]
     obtain rfl:=Ba1 hs
     generalize okP ty n ⟨#[]⟩=b at HP
     clear hs h3
     have hn:(n !=0)=true\/(n !=0)=false:=by cases n !=0<;>simp
     rcases hn with hn | hn
     all_goals
      cases b
      all_goals
       go_enter Tryz.func149,Tryz.ntmps149
       go_wp2_with(first | (go_at_call 187;refine(HT _).out.mono ?_;rintro e w' ⟨rfl,rfl⟩) | (go_at_call 188;refine(HP _).out.mono ?_;rintro e w' ⟨rfl,hb⟩))
       go_ret
       exact RetB.mk rfl (Aa0 (by go_grown) hb)
    ·rw[if_pos (.inr ⟨h3,hs⟩)]
     have he:=Bn4 hs
     clear hs h3 HP
     have hn:(n !=0)=true\/(n !=0)=false:=by cases n !=0<;>simp
     rcases hn with hn | hn
     all_goals
      go_enter Tryz.func149,Tryz.ntmps149
      go_wp2_with(go_at_call 187;refine(HT _).out.mono ?_;rintro e w' ⟨rfl,rfl⟩)
      go_ret
      exact RetB.mk rfl (by go_grown)
  ·rw[Bk8 hT]
   clear hT
   by_cases hn:n=0
   ·subst hn
    by_cases hs:s.size=0
    ·obtain rfl:=Ba1 hs
     rw[if_neg (by rintro(h | h)<;>exact h rfl)]
     clear hs
     cases nu
     all_goals
      go_enter Tryz.func149,Tryz.ntmps149
      go_wp2_with(go_at_call 187;refine(HT _).out.mono ?_;rintro e w' ⟨rfl,rfl⟩)
      go_ret
      exact RetB.mk rfl (by go_grown)
    ·rw[if_pos (.inr hs)]
     have he:=Bn4 hs
     clear hs
     go_enter Tryz.func149,Tryz.ntmps149
     go_wp2_with(go_at_call 187;refine(HT _).out.mono ?_;rintro e w' ⟨rfl,rfl⟩)
     go_ret
     exact RetB.mk rfl (by go_grown)
   ·rw[if_pos (.inl hn)]
    have e1:=Ab5 hn
    clear hn
    go_enter Tryz.func149,Tryz.ntmps149
    go_wp2_with(go_at_call 187;refine(HT _).out.mono ?_;rintro e w' ⟨rfl,rfl⟩)
    go_ret
    exact RetB.mk rfl (by go_grown)
 ·have Ab:okT ty=false:=by simpa using hT
  rw[Ab] at HT
  rw[Dz6 Ab]
  clear hT Ab
  go_enter Tryz.func149,Tryz.ntmps149
  go_wp2_with(go_at_call 187;refine(HT _).out.mono ?_;rintro e w' ⟨rfl,rfl⟩)
  go_ret
  exact RetB.mk rfl (by go_grown)
end Go.P
namespace Go.VL
theorem okT_five{ty:Int}(h:okT ty=true):ty=1\/ty=2\/ty=3\/ty=4\/ty=5:=by
 have:=of_decide_eq_true h;omega
end Go.VL
namespace Go.P
open RowKit VB VL
theorem Cp6(nm:ByteArray)(ty sc:Int)(nu Aa:Bool)(n:Int)(s:ByteArray)(w:World):
   Calls Tryz.prog 93 #[(.agg #[.string nm,.int .i64 ty,.int .i64 sc,.bool nu]),(.agg #[.bool Aa,.int .i64 n,.string s])] w (RetB (.int .i64 (chk ty nu Aa n s:Nat)) w):=by
 have HT:=fun w=>Hd (An0 ty w)
 by_cases hT:okT ty=true
 ·rw[hT] at HT
  cases Aa
  ·rw[Ap3 hT]
   have h5:=okT_five hT
   clear hT
   by_cases h3:ty=3
   ·subst h3
    by_cases hn:n=0
    ·subst hn
     rw[if_neg (by omega)]
     clear h5
     have hv:okP 3 0 s=decide (s.size<=64):=rfl
     rw[hv];clear hv
     by_cases hs:s.size<=64
     ·rw[Q4 hs]
      have hd:decide ((s.size:Int)<=64)=true:=Q4 (by omega)
      clear hs
      go_enter Tryz.func93,Tryz.ntmps93
      go_wp2_with(go_at_call 73;refine(HT _).out.mono ?_;rintro e w' ⟨rfl,rfl⟩)
      go_ret
      exact RetB.mk rfl (by go_grown)
     ·rw[Q3 hs]
      have hd:decide ((s.size:Int)<=64)=false:=Q3 (by omega)
      clear hs
      go_enter Tryz.func93,Tryz.ntmps93
      go_wp2_with(go_at_call 73;refine(HT _).out.mono ?_;rintro e w' ⟨rfl,rfl⟩)
      go_ret
      exact RetB.mk rfl (by go_grown)
    ·rw[if_pos (.inl ⟨rfl,hn⟩)]
     have e1:=Ab5 hn
     clear hn h5
     go_enter Tryz.func93,Tryz.ntmps93
     go_wp2_with(go_at_call 73;refine(HT _).out.mono ?_;rintro e w' ⟨rfl,rfl⟩)
     go_ret
     exact RetB.mk rfl (by go_grown)
   ·by_cases hs:s.size=0
    ·rw[if_neg (by omega)]
     obtain rfl:=Ba1 hs
     clear hs
     rcases h5 with rfl | rfl | rfl | rfl | rfl
     ·go_enter Tryz.func93,Tryz.ntmps93
      go_wp2_with(go_at_call 73;refine(HT _).out.mono ?_;rintro e w' ⟨rfl,rfl⟩)
      go_ret
      exact RetB.mk rfl (by go_grown)
     ·have hv:okP 2 n ⟨#[]⟩=decide (n=0\/n=1):=rfl
      rw[hv];clear hv
      by_cases h0:n=0
      ·subst h0
       go_enter Tryz.func93,Tryz.ntmps93
       go_wp2_with(go_at_call 73;refine(HT _).out.mono ?_;rintro e w' ⟨rfl,rfl⟩)
       go_ret
       exact RetB.mk rfl (by go_grown)
      ·by_cases h1:n=1
       ·subst h1
        go_enter Tryz.func93,Tryz.ntmps93
        go_wp2_with(go_at_call 73;refine(HT _).out.mono ?_;rintro e w' ⟨rfl,rfl⟩)
        go_ret
        exact RetB.mk rfl (by go_grown)
       ·rw[Q3 (by omega)]
        have e0:=Ab3 h0
        have e1:=Ab3 h1
        clear h0 h1
        go_enter Tryz.func93,Tryz.ntmps93
        go_wp2_with(go_at_call 73;refine(HT _).out.mono ?_;rintro e w' ⟨rfl,rfl⟩)
        go_ret
        exact RetB.mk rfl (by go_grown)
     ·exact absurd rfl h3
     ·have hv:okP 4 n ⟨#[]⟩=decide (-719162<=n/\n<=2932896):=rfl
      rw[hv];clear hv
      by_cases g1:-719162<=n
      ·by_cases g2:n<=2932896
       ·rw[Q4 ⟨g1,g2⟩]
        go_enter Tryz.func93,Tryz.ntmps93
        go_wp2_with(go_at_call 73;refine(HT _).out.mono ?_;rintro e w' ⟨rfl,rfl⟩)
        go_ret
        exact RetB.mk rfl (by go_grown)
       ·rw[Q3 (fun h=>g2 h.2)]
        have hd:=Q3 g2
        clear g2
        go_enter Tryz.func93,Tryz.ntmps93
        go_wp2_with(go_at_call 73;refine(HT _).out.mono ?_;rintro e w' ⟨rfl,rfl⟩)
        go_ret
        exact RetB.mk rfl (by go_grown)
      ·rw[Q3 (fun h=>g1 h.1)]
       have hd:=Q3 g1
       clear g1
       go_enter Tryz.func93,Tryz.ntmps93
       go_wp2_with(go_at_call 73;refine(HT _).out.mono ?_;rintro e w' ⟨rfl,rfl⟩)
       go_ret
       exact RetB.mk rfl (by go_grown)
     ·have hv:okP 5 n ⟨#[]⟩=decide (-999999999999999999<=n/\n<=999999999999999999):=rfl
      rw[hv];clear hv
      by_cases g1:-999999999999999999<=n
      ·by_cases g2:n<=999999999999999999
       ·rw[Q4 ⟨g1,g2⟩]
        go_enter Tryz.func93,Tryz.ntmps93
        go_wp2_with(go_at_call 73;refine(HT _).out.mono ?_;rintro e w' ⟨rfl,rfl⟩)
        go_ret
        exact RetB.mk rfl (by go_grown)
       ·rw[Q3 (fun h=>g2 h.2)]
        have hd:=Q3 g2
        clear g2
        go_enter Tryz.func93,Tryz.ntmps93
        go_wp2_with(go_at_call 73;refine(HT _).out.mono ?_;rintro e w' ⟨rfl,rfl⟩)
        go_ret
        exact RetB.mk rfl (by go_grown)
      ·rw[Q3 (fun h=>g1 h.1)]
       have hd:=Q3 g1
       clear g1
       go_enter Tryz.func93,Tryz.ntmps93
       go_wp2_with(go_at_call 73;refine(HT _).out.mono ?_;rintro e w' ⟨rfl,rfl⟩)
       go_ret
       exact RetB.mk rfl (by go_grown)
    ·rw[if_pos (.inr ⟨h3,hs⟩)]
     have he:=Bn4 hs
     have f3:=Ab5 h3
     clear hs h3 h5
     go_enter Tryz.func93,Tryz.ntmps93
     go_wp2_with(go_at_call 73;refine(HT _).out.mono ?_;rintro e w' ⟨rfl,rfl⟩)
     go_ret
     exact RetB.mk rfl (by go_grown)
  ·rw[Bk8 hT]
   clear hT
   by_cases hn:n=0
   ·subst hn
    by_cases hs:s.size=0
    ·obtain rfl:=Ba1 hs
     rw[if_neg (by rintro(h | h)<;>exact h rfl)]
     clear hs
     cases nu
     all_goals
      go_enter Tryz.func93,Tryz.ntmps93
      go_wp2_with(go_at_call 73;refine(HT _).out.mono ?_;rintro e w' ⟨rfl,rfl⟩)
      go_ret
      exact RetB.mk rfl (by go_grown)
    ·rw[if_pos (.inr hs)]
     have he:=Bn4 hs
     clear hs
     go_enter Tryz.func93,Tryz.ntmps93
     go_wp2_with(go_at_call 73;refine(HT _).out.mono ?_;rintro e w' ⟨rfl,rfl⟩)
     go_ret
     exact RetB.mk rfl (by go_grown)
   ·rw[if_pos (.inl hn)]
    have e1:=Ab5 hn
    clear hn
    go_enter Tryz.func93,Tryz.ntmps93
    go_wp2_with(go_at_call 73;refine(HT _).out.mono ?_;rintro e w' ⟨rfl,rfl⟩)
    go_ret
    exact RetB.mk rfl (by go_grown)
 ·have Ab:okT ty=false:=by simpa using hT
  rw[Ab] at HT
  rw[Dz6 Ab]
  clear hT Ab
  go_enter Tryz.func93,Tryz.ntmps93
  go_wp2_with(go_at_call 73;refine(HT _).out.mono ?_;rintro e w' ⟨rfl,rfl⟩)
  go_ret
  exact RetB.mk rfl (by go_grown)
end Go.P
namespace Go.VL
open RowKit VB
def cmpI(a b:Int):Int:=if a<b then -1 else if b<a then 1 else 0
def Bd1(a b:ByteArray):Int:=if Go.Op.bytesLess a.toList b.toList then -1 else if Go.Op.bytesLess b.toList a.toList then 1 else 0
def cmp(ty:Int)(x:Bool)(n:Int)(s:ByteArray)(y:Bool)(m:Int)(t:ByteArray):Int:=
 if x then(if y then 0 else -1) else if y then 1 else if ty=3 then Bd1 s t else cmpI n m
theorem less_irr:∀(a:List UInt8),Go.Op.bytesLess a a=false
 | []=>rfl
 | a::l=>by simp[Go.Op.bytesLess,less_irr l]
theorem less_tri:∀(a b:List UInt8),Go.Op.bytesLess a b=true\/a=b\/Go.Op.bytesLess b a=true
 | [],[]=>.inr (.inl rfl)
 | [],_::_=>.inl rfl
 | _::_,[]=>.inr (.inr rfl)
 | a::l,b::m=>by
   have h:=less_tri l m
   simp only[Go.Op.bytesLess]
   by_cases h1:a<b
   ·simp[h1]
   ·by_cases h2:b<a
    ·simp[h2]
    ·have e:a=b:=by
       apply UInt8.toNat_inj.1
       have Aa:¬a.toNat<b.toNat:=h1
       have Ab:¬b.toNat<a.toNat:=h2
       omega
     subst e
     simp only[h1,beq_self_eq_true,Bool.false_or,decide_false,Bool.true_and,List.cons.injEq,true_and]
     simpa using h
theorem Bi8:∀(a b:List UInt8),Go.Op.bytesLess a b=true->Go.Op.bytesLess b a=false
 | [],[],h=>by simp[Go.Op.bytesLess] at h
 | [],_::_,_=>rfl
 | _::_,[],h=>by simp[Go.Op.bytesLess] at h
 | a::l,b::m,h=>by
   simp only[Go.Op.bytesLess] at h⊢
   by_cases h1:a<b
   ·have h2:¬b<a:=fun h2=>by have h1':a.toNat<b.toNat:=h1;have h2':b.toNat<a.toNat:=h2;omega
    have h3:¬b=a:=fun e=>by subst e;exact h2 h1
    simp[h2,h3]
   ·simp[h1] at h
    obtain⟨rfl,h⟩:=h
    simp[Bi8 l m h]
theorem Dz3(s t:ByteArray):(if Go.Op.bytesLess s.toList t.toList then -1 else if(s.toList==t.toList) then 0 else 1)=Bd1 s t:=by
 unfold Bd1
 have h:=less_tri s.toList t.toList
 cases h1:Go.Op.bytesLess s.toList t.toList
 ·cases h2:Go.Op.bytesLess t.toList s.toList
  ·rw[h1,h2] at h
   have e:s.toList=t.toList:=by simpa using h
   simp[e]
  ·have e:(s.toList==t.toList)=false:=beq_eq_false_iff_ne.2 fun e=>by rw[e,less_irr] at h2;cases h2
   simp[e]
 ·rfl
end Go.VL
namespace Go.P
open RowKit VB VL
theorem Eh4(a b:Int)(w:World):Calls Tryz.prog 195 #[.int .i64 a,.int .i64 b] w (Ret (.int .i64 (cmpI a b)) w):=by
 unfold cmpI
 by_cases h1:a<b
 ·rw[if_pos h1]
  go_enter Tryz.func195,Tryz.ntmps195
  go_wp2
  go_ret
  exact Ret.mk rfl
 ·rw[if_neg h1]
  by_cases h2:b<a
  ·rw[if_pos h2]
   go_enter Tryz.func195,Tryz.ntmps195
   go_wp2
   go_ret
   exact Ret.mk rfl
  ·rw[if_neg h2]
   go_enter Tryz.func195,Tryz.ntmps195
   go_wp2
   go_ret
   exact Ret.mk rfl
theorem Eh3(a b:ByteArray)(w:World):Calls Tryz.prog 194 #[.string a,.string b] w (Ret (.int .i64 (Bd1 a b)) w):=by
 rw[←Dz3]
 cases h1:Go.Op.bytesLess a.toList b.toList
 ·cases h2:(a.toList==b.toList)
  ·go_enter Tryz.func194,Tryz.ntmps194
   go_wp2
   go_ret
   exact Ret.mk rfl
  ·go_enter Tryz.func194,Tryz.ntmps194
   go_wp2
   go_ret
   exact Ret.mk rfl
 ·go_enter Tryz.func194,Tryz.ntmps194
  go_wp2
  go_ret
  exact Ret.mk rfl
theorem Co8(a b:Bool)(w:World):Calls Tryz.prog 152 #[.bool a,.bool b] w (Ret (.int .i64 (if a then -1 else if b then 0 else 1)) w):=by
 cases a
 ·cases b
  ·go_enter Tryz.func152,Tryz.ntmps152
   go_wp2
   go_ret
   exact Ret.mk rfl
  ·go_enter Tryz.func152,Tryz.ntmps152
   go_wp2
   go_ret
   exact Ret.mk rfl
 ·go_enter Tryz.func152,Tryz.ntmps152
  go_wp2
  go_ret
  exact Ret.mk rfl
theorem Bw0(ty:Int)(x:Bool)(n:Int)(s:ByteArray)(y:Bool)(m:Int)(t:ByteArray)(w:World):
   Calls Tryz.prog 154 #[.int .i64 ty,(.agg #[.bool x,.int .i64 n,.string s]),(.agg #[.bool y,.int .i64 m,.string t])] w (RetB (.int .i64 (cmp ty x n s y m t)) w):=by
 have HS:=fun w=>Hd (Eh3 s t w)
 have HI:=fun w=>Hd (Eh4 n m w)
 have hu:cmp ty x n s y m t=if x then(if y then 0 else -1) else if y then 1 else if ty=3 then Bd1 s t else cmpI n m:=rfl
 rw[hu];clear hu
 generalize Bd1 s t=cs at *
 generalize cmpI n m=ci at *
 cases x
 ·cases y
  ·by_cases h3:ty=3
   ·subst h3
    go_enter Tryz.func154,Tryz.ntmps154
    go_wp2_with(go_at_call 194;refine(HS _).out.mono ?_;rintro e w' ⟨rfl,rfl⟩)
    go_ret
    exact RetB.mk rfl (by go_grown)
   ·rw[if_neg (by simp),if_neg (by simp),if_neg h3]
    have e3:=Ab3 h3
    clear h3
    go_enter Tryz.func154,Tryz.ntmps154
    go_wp2_with(go_at_call 195;refine(HI _).out.mono ?_;rintro e w' ⟨rfl,rfl⟩)
    go_ret
    exact RetB.mk rfl (by go_grown)
  ·go_enter Tryz.func154,Tryz.ntmps154
   go_wp2
   go_ret
   exact RetB.mk rfl (by go_grown)
 ·cases y
  all_goals
   go_enter Tryz.func154,Tryz.ntmps154
   go_wp2
   go_ret
   exact RetB.mk rfl (by go_grown)
theorem Ff5(n m:Int):(if decide (n<m) then -1 else if(n==m) then 0 else 1)=cmpI n m:=by
 unfold cmpI
 by_cases h1:n<m
 ·simp[h1]
 ·by_cases h2:m<n
  ·simp[h1,h2,Ab3 (show ¬n=m by omega)]
  ·simp[h1,h2,Bm4 (show n=m by omega)]
theorem Cp5(ty:Int)(x:Bool)(n:Int)(s:ByteArray)(y:Bool)(m:Int)(t:ByteArray)(w:World):
   Calls Tryz.prog 109 #[.int .i64 ty,(.agg #[.bool x,.int .i64 n,.string s]),(.agg #[.bool y,.int .i64 m,.string t])] w (RetB (.int .i64 (cmp ty x n s y m t)) w):=by
 have HS:=fun w=>Hd (Co8 (Go.Op.bytesLess s.toList t.toList) (s.toList==t.toList) w)
 rw[Dz3] at HS
 have HI:=fun w=>Hd (Co8 (decide (n<m)) (n==m) w)
 rw[Ff5] at HI
 have hu:cmp ty x n s y m t=if x then(if y then 0 else -1) else if y then 1 else if ty=3 then Bd1 s t else cmpI n m:=rfl
 rw[hu];clear hu
 generalize Bd1 s t=cs at *
 generalize cmpI n m=ci at *
 cases x
 ·cases y
  ·by_cases h3:ty=3
   ·subst h3
    go_enter Tryz.func109,Tryz.ntmps109
    go_wp2_with(go_at_call 152;refine(HS _).out.mono ?_;rintro e w' ⟨rfl,rfl⟩)
    go_ret
    exact RetB.mk rfl (by go_grown)
   ·rw[if_neg (by simp),if_neg (by simp),if_neg h3]
    have e3:=Ab3 h3
    clear h3
    go_enter Tryz.func109,Tryz.ntmps109
    go_wp2_with(go_at_call 152;refine(HI _).out.mono ?_;rintro e w' ⟨rfl,rfl⟩)
    go_ret
    exact RetB.mk rfl (by go_grown)
  ·go_enter Tryz.func109,Tryz.ntmps109
   go_wp2
   go_ret
   exact RetB.mk rfl (by go_grown)
 ·cases y
  all_goals
   go_enter Tryz.func109,Tryz.ntmps109
   go_wp2
   go_ret
   exact RetB.mk rfl (by go_grown)
end Go.P
namespace Go.P
open RowKit VB VL
end Go.P

namespace Go.VS
open RowKit VB
structure Vl where
 nu:Bool
 n:Int
 s:ByteArray
def vl0:Vl:=⟨false,0,⟨#[]⟩⟩
def Vl.cells(v:Vl):List Value:=[.bool v.nu,.int .i64 v.n,.string v.s]
def Vl.val(v:Vl):Value:=.agg #[.bool v.nu,.int .i64 v.n,.string v.s]
structure At3(w:World)(ad:Addr)(j:Nat)(x:Vl):Prop where
 c0:w.cell? (ad.add (j*3))=some (.bool x.nu)
 c1:w.cell? ⟨(ad.add (j*3)).block,(ad.add (j*3)).off+1,none⟩=some (.int .i64 x.n)
 c2:w.cell? ⟨(ad.add (j*3)).block,(ad.add (j*3)).off+2,none⟩=some (.string x.s)
theorem Eb9(a:Addr)(i j:Nat):(a.add i).add j=a.add (i+j):=by
 unfold Addr.add
 by_cases hi:i=0
 ·subst hi;simp
 ·by_cases hj:j=0
  ·subst hj;simp[hi]
  ·simp[hi,hj,Nat.add_assoc]
theorem Bw6(a:Addr)(n k:Nat)(hk:k≠0):a.add (n+k)=⟨(a.add n).block,(a.add n).off+k,none⟩:=by
 rw[←Eb9]
 show(a.add n).add k=_
 generalize a.add n=b
 unfold Addr.add
 rw[if_neg hk]
theorem At3.mk'{w:World}{ad:Addr}{j:Nat}{x:Vl}(h0:w.cell? (ad.add (j*3))=some (.bool x.nu))(h1:w.cell? (ad.add (j*3+1))=some (.int .i64 x.n))(h2:w.cell? (ad.add (j*3+2))=some (.string x.s)):At3 w ad j x:=
 ⟨h0,by rw[←Bw6 _ _ _ (by decide)];exact h1,by rw[←Bw6 _ _ _ (by decide)];exact h2⟩
theorem At3.below{w w':World}{B:Nat}{ad:Addr}{j:Nat}{x:Vl}(h:At3 w ad j x)(hb:Below B w w')(hB:ad.block<B):At3 w' ad j x:=by
 have Aa:(ad.add (j*3)).block<B:=by rw[block_add];exact hB
 exact⟨(hb.cell Aa).trans h.c0,(hb.cell (p:=⟨(ad.add (j*3)).block,_,none⟩) Aa).trans h.c1,(hb.cell (p:=⟨(ad.add (j*3)).block,_,none⟩) Aa).trans h.c2⟩
theorem At3.cell{w:World}{ad:Addr}{j:Nat}{x:Vl}(h:At3 w ad j x){k:Nat}{u:Value}(hu:x.cells[k]?=some u):w.cell? (ad.add (j*3+k))=some u:=by
 match k,hu with
 | 0,hu=>cases hu;exact h.c0
 | 1,hu=>cases hu;rw[Bw6 _ _ _ (by decide)];exact h.c1
 | 2,hu=>cases hu;rw[Bw6 _ _ _ (by decide)];exact h.c2
def RdL(w:World)(B:Nat)(v:Value)(l:List Vl):Prop:=
 ∃A c,v=.slice A l.length c/\l.length<=c/\c<=maxLen/\∀i x,l[i]?=some x->∃ad,A=some ad/\ad.block<B/\At3 w ad i x
section
variable {w w':World} {B B' base c n k:Nat} {v:Value} {l m:List Vl} {e:TypeId} {A:Option Addr} {ad:Addr} {x:Vl} {i:Nat}
theorem RdL.nil(w:World)(B:Nat):RdL w B (.slice none 0 0) []:=⟨none,0,rfl,Q1 _,Nat.zero_le _,fun i x hx=>by simp at hx⟩
theorem RdL.below(h:RdL w B v l)(hb:Below B w w'):RdL w' B v l:=by
 obtain⟨A,c,hv,hc,hm,hr⟩:=h
 refine⟨A,c,hv,hc,hm,fun i x hi=>?_⟩
 obtain⟨ad,h1,h2,h3⟩:=hr i x hi
 exact⟨ad,h1,h2,h3.below hb h2⟩
theorem RdL.more(h:RdL w B v l)(hB:B<=B'):RdL w B' v l:=by
 obtain⟨A,c,hv,hc,hm,hr⟩:=h
 refine⟨A,c,hv,hc,hm,fun i x hi=>?_⟩
 obtain⟨ad,h1,h2,h3⟩:=hr i x hi
 exact⟨ad,h1,by omega,h3⟩
theorem RdL.step(h:RdL w w.heap.size v l)(hb:Below w.heap.size w w'):RdL w' w'.heap.size v l:=(h.below hb).more hb.size
theorem RdL.at(h:RdL w B (.slice A n c) l)(hx:l[i]?=some x):∃ad,A=some ad/\ad.block<B/\At3 w ad i x:=by
 obtain⟨A',c',hv,_,_,hr⟩:=h
 cases hv
 exact hr i x hx
theorem RdL.bds(h:RdL w B v l):∃A c n,v=.slice A n c/\n=l.length/\n<=c/\c<=9223372036854775807:=by
 obtain⟨A,c,rfl,h1,h2,_⟩:=h
 exact⟨A,c,_,rfl,rfl,h1,h2⟩
def Ac2(l:List Vl):List Value:=l.flatMap Vl.cells
theorem An9:∀l:List Vl,(Ac2 l).length=l.length*3
 | []=>rfl
 | x::r=>by
   show(x.cells++Ac2 r).length=_
   rw[Q5,An9 r,Q6]
   show 3+_=_
   omega
theorem Cf1(a b:List Vl):Ac2 (a++b)=Ac2 a++Ac2 b:=List.flatMap_append
theorem Ak9:∀(l:List Vl)(i k:Nat)(x:Vl),l[i]?=some x->k<3->(Ac2 l)[i*3+k]?=x.cells[k]?
 | [],i,_,_,h,_=>by simp at h
 | y::r,0,k,x,h,hk=>by
   simp at h;subst h
   show(y.cells++Ac2 r)[0*3+k]?=_
   rw[Nat.zero_mul,Nat.zero_add,List.getElem?_append_left (show k<y.cells.length from hk)]
 | y::r,i+1,k,x,h,hk=>by
   show(y.cells++Ac2 r)[(i+1)*3+k]?=_
   rw[List.getElem?_append_right (show y.cells.length<=(i+1)*3+k from by show 3<=_;omega),show(i+1)*3+k-y.cells.length=i*3+k from by show _-3=_;omega,
    Ak9 r i k x (by simpa using h) hk]
theorem Cf0(l:List Vl):∀u∈Ac2 l,u.oneCell'=true:=by
 intro u hu
 obtain⟨x,_,hx⟩:=List.mem_flatMap.1 hu
 simp only[Vl.cells,List.mem_cons,List.not_mem_nil,or_false] at hx
 rcases hx with rfl | rfl | rfl<;>rfl
theorem Cx9{j:Nat}{u:Value}(hu:(Ac2 l)[j]?=some u):∃x,l[j/3]?=some x/\x.cells[j%3]?=some u:=by
 have hj:j<(Ac2 l).length:=(List.getElem?_eq_some_iff.1 hu).1
 rw[An9] at hj
 have hx:l[j/3]?=some (l[j/3]'(by omega)):=Q7 _
 refine⟨_,hx,?_⟩
 have:=Ak9 l (j/3) (j%3) _ hx (by omega)
 rw[show j/3*3+j%3=j from by omega] at this
 rw[←this,hu]
theorem RdL.cells(h:RdL w B (.slice (some ad) n c) l):∀j u,(Ac2 l)[j]?=some u->w.cell? (ad.add j)=some u:=fun j u hu=>by
 obtain⟨x,hx,hc⟩:=Cx9 hu
 obtain⟨_,e1,_,h3⟩:=h.at hx
 cases e1
 have:=h3.cell hc
 rwa [show j/3*3+j%3=j from by omega] at this
def OwnL(e:TypeId)(w:World)(base:Nat)(v:Value)(l:List Vl):Prop:=w.ownsRow base e 3 v l.length (Ac2 l)
theorem OwnL.nil(e:TypeId)(w:World)(base:Nat):OwnL e w base (.slice none 0 0) []:=World.ownsRow_nil w base e 3
theorem OwnL.alloc(h:OwnL e w base v l)(o:Obj):OwnL e (w.alloc o) base v l:=World.ownsRow.alloc h o
theorem OwnL.lower(h:OwnL e w base v l){b':Nat}(hb:b'<=base):OwnL e w b' v l:=Joins.ownsRow_le h hb
theorem OwnL.lt(h:OwnL e w base v l):∀b,v.ownBlock=some b->base<=b/\b<w.heap.size:=World.ownsRow.lt h
theorem OwnL.keep{row:Option Nat}(h:OwnL e w base v l)(hg:w.grownBy w' row)(Aa:v.ownBlock=none\/v.ownBlock≠row):OwnL e w' base v l:=World.ownsRow.kept h hg Aa
theorem OwnL.below(h:OwnL e w base v l)(hb:Below w.heap.size w w'):OwnL e w' base v l:=by
 refine World.ownsRow.kept (row:=none) h ⟨hb.os,hb.tape,hb.output,hb.size,fun b hlt _=>hb.block b hlt⟩ ?_
 rcases hv:v.ownBlock with _ | b
 ·exact .inl rfl
 ·exact .inr (by simp)
theorem OwnL.read(h:OwnL e w base v l):RdL w w.heap.size v l:=by
 have Aa:=h.lt
 rcases h.2 with⟨rfl,hn⟩ | ⟨g,c,Ab,rfl,_,_,h3,h4,_⟩
 ·have:=List.eq_nil_of_length_eq_zero hn
  subst this
  exact RdL.nil _ _
 ·refine⟨some ⟨g,0,none⟩,c,rfl,h3,h4,fun i x hx=>⟨_,rfl,(Aa g rfl).2,?_⟩⟩
  have key:∀k u,k<3->x.cells[k]?=some u->w.cell? ((⟨g,0,none⟩:Addr).add (i*3+k))=some u:=fun k u hk hu=>
   World.ownsRow.cells h (g:=g) rfl (i*3+k) u (by rw[Ak9 l i k x hx hk];exact hu)
  exact At3.mk' (key 0 _ (by decide) rfl) (key 1 _ (by decide) rfl) (key 2 _ (by decide) rfl)
theorem Cm6 {P:Program} {Ah:Array Oper} {Ac:List Oper} {o:Oper} {a:Act} {Q:Exit->Act->World->Prop} (Ai:o.guard=none) (s x:Operand) (t:TypeId)
   (ho:o.op=.call { callee:=.builtin .append,args:=#[s,x],argTypes:=#[t,t] })
   (base:Nat) (e:TypeId) (ht:P.underlying t=some (.slice e)) (Ad:(P.info? e).map (fun i=>(i.zero,i.size,i.bytes))=some (some vl0.val,3,32))
   (v:Value) (l:List Vl) (hs:a.eval s=v) (Aa:OwnL e w base v l) (B:Nat) (vx:Value) (m:List Vl) (hx:a.eval x=vx) (hr:RdL w B vx m)
   (Aj:l.length+m.length<=1000000) (Ab:base<=w.heap.size)
   (h:∀v' w',OwnL e w' base v' (l++m)->Below base w w'->w.grownBy w' v.ownBlock->wpList P Ah Q Ac (a.put o.dst v') w'):wpList P Ah Q (o::Ac) a w:=by
 obtain⟨i,hi,hz,An,Al⟩:=info_parts Ad
 have fin:∀v' w',w'.ownsRow base e 3 v' (l.length+m.length) (Ac2 l++Ac2 m)->w.grownBy w' v.ownBlock->wpList P Ah Q Ac (a.put o.dst v') w':=fun v' w' Ag hg=>by
  refine h v' w' ?_ ((Q2 _ _).grown hg Ab (fun b hb=>(OwnL.lt Aa b hb).1)) hg
  unfold OwnL
  rw[Q5,Cf1];exact Ag
 obtain⟨A,c,rfl,hc,hm,Ae⟩:=id hr
 rcases A with _ | ad
 ·have Ao:m=[]:=by
    cases m with
    | nil=>rfl
    | cons y m=>obtain⟨ad,h1,_⟩:=Ae 0 y rfl;cases h1
  subst Ao
  refine wpList_plain Ai fun K hK=>?_
  have Af:(Builtin.append_ #[t,t] o.type #[v,.slice none 0 c]).run P w=.ok v w:=by
   rcases Aa.2 with⟨rfl,_⟩ | ⟨g,Aq,Ap,rfl,_,_,Ak,_⟩
   ·simp[Builtin.append_,run_underlying ht,sizeOf,typeInfo,hi,Builtin.lenOf,Builtin.firstCells]
   ·simp[Builtin.append_,run_underlying ht,sizeOf,typeInfo,hi,Builtin.lenOf,Builtin.firstCells,Ak,storeCells]
  unfold Oper.wp
  simp[execOp,ho,resolve,invoke,builtin,hs,hx,Af,Result.andThen]
  refine hK _ _ (fin v w ?_ (World.grownBy.refl w _))
  have:=Aa
  unfold OwnL at this
  simpa[Ac2] using this
 ·refine wpList_append_own w Ai s x t ho base e i vl0.val 3 32 ht hi hz An Al rfl (by decide) v l.length (Ac2 l) hs Aa ad m.length c (Ac2 m) hx (An9 m) hr.cells (Cf0 m) (by unfold maxLen;omega) (by omega) Ab ?_
  intro v' w' Ag hg _
  exact fin v' w' Ag hg
theorem RdL.lit(w:World)(l:List Vl)(m:Nat)(e:TypeId)(hm:l.length<=m)(Aa:m<=maxLen):RdL (w.alloc (.cells (Ac2 l).toArray e)) (w.heap.size+1) (.slice (some ⟨w.heap.size,0,none⟩) l.length m) l:=by
 refine⟨_,m,rfl,hm,Aa,fun i x hx=>⟨_,rfl,Nat.lt_succ_self _,?_⟩⟩
 have key:∀k u,k<3->x.cells[k]?=some u->(w.alloc (.cells (Ac2 l).toArray e)).cell? ((⟨w.heap.size,0,none⟩:Addr).add (i*3+k))=some u:=fun k u hk hu=>by
  have e1:((⟨w.heap.size,0,none⟩:Addr).add (i*3+k))=⟨w.heap.size,i*3+k,none⟩:=by
   unfold Addr.add
   by_cases h0:i*3+k=0
   ·rw[h0];rfl
   ·rw[if_neg h0];simp
  rw[e1,World.cell?_alloc_new]
  have:=Ak9 l i k x hx hk
  simp only[List.getElem?_toArray]
  rw[this,hu]
 exact At3.mk' (key 0 _ (by decide) rfl) (key 1 _ (by decide) rfl) (key 2 _ (by decide) rfl)
def RetVl(e:TypeId)(l:List Vl)(w:World):Ending->World->Prop:=fun en w'=>∃v,en=.returned v/\OwnL e w' w.heap.size v l/\Below w.heap.size w w'
theorem RetVl.mk{y:Value}(hx:y=v)(ho:OwnL e w' w.heap.size v l)(hb:Below w.heap.size w w'):RetVl e l w (.returned y) w':=⟨v,by rw[hx],ho,hb⟩
def RetVlE(e:TypeId)(l:List Vl)(c:Nat)(w:World):Ending->World->Prop:=fun en w'=>∃v,en=.returned (.tuple #[v,.int .i64 (c:Int)])/\OwnL e w' w.heap.size v l/\Below w.heap.size w w'
theorem RetVlE.mk{k:Nat}{y:Value}(hx:y=.tuple #[v,.int .i64 (k:Int)])(ho:OwnL e w' w.heap.size v l)(hb:Below w.heap.size w w'):RetVlE e l k w (.returned y) w':=⟨v,by rw[hx],ho,hb⟩
end
end Go.VS
namespace Go.CK
open RowKit VB VS VL
def Ae6(typ:Int)(nu:Bool)(x:Vl):Nat:=chk typ nu x.nu x.n x.s
theorem Ff6{ty:Int}{nu Aa:Bool}{n:Int}{s:ByteArray}(h:chk ty true Aa n s=0)(hn:Aa=true->nu=true):Ae6 ty nu ⟨Aa,n,s⟩=0:=by
 show chk ty nu Aa n s=0
 cases nu with
 | true=>exact h
 | false=>
   cases Aa with
   | true=>exact absurd (hn rfl) (by decide)
   | false=>unfold chk at h⊢;exact h
end Go.CK
namespace Go.P
open RowKit VB VS ChangeShapes WideShapes ChangeAt Deep
theorem Tryz.infVal:(Tryz.prog.info? 49).map (fun i=>(i.zero,i.size,i.bytes))=some (some vl0.val,3,32):=by kernel_rfl
section
variable {H:Type} {enc:TypeId×Value->H}
end
end Go.P
namespace Go.VS
open RowKit VB
def RowL(e:TypeId)(w:World)(base g c:Nat)(l:List Vl):Prop:=OwnL e w base (.slice (some ⟨g,0,none⟩) l.length c) l
section
variable {w w':World} {B base c n k g:Nat} {v:Value} {l m:List Vl} {e:TypeId} {x:Vl} {i:Nat}
theorem Ch9(n:Nat):(madeCells #[.bool false,.int .i64 0,.string ⟨#[]⟩] (n*3)).toList=Ac2 (List.replicate n vl0):=by
 apply List.ext_getElem?
 intro j
 by_cases hj:j<n*3
 ·have hr:(List.replicate n vl0)[j/3]?=some vl0:=by rw[List.getElem?_replicate,if_pos (by omega)]
  have:=Ak9 (List.replicate n vl0) (j/3) (j%3) vl0 hr (by omega)
  rw[show j/3*3+j%3=j from by omega] at this
  rw[this]
  unfold madeCells
  rw[Array.getElem?_toList,Array.getElem?_map,Array.getElem?_range]
  have h3:j%3=0\/j%3=1\/j%3=2:=by omega
  rw[if_pos hj]
  rcases h3 with h | h | h<;>simp[h,Vl.cells,vl0]
 ·rw[List.getElem?_eq_none (by rw[Array.length_toList,size_madeCells];omega),List.getElem?_eq_none (by rw[An9,List.length_replicate];omega)]
theorem RowL.made(e:TypeId)(w:World)(base n:Nat)(hb:base<=w.heap.size)(hm:n<=maxLen):
   RowL e (w.alloc (.cells (madeCells #[.bool false,.int .i64 0,.string ⟨#[]⟩] (n*3)) e)) base w.heap.size n (List.replicate n vl0):=by
 have:=World.ownsRow_lit (base:=base) (e:=e) (size:=3) w (madeCells #[.bool false,.int .i64 0,.string ⟨#[]⟩] (n*3)) n hb hm (by rw[size_madeCells])
 rw[Ch9] at this
 unfold RowL OwnL
 rw[List.length_replicate]
 exact this
theorem OwnL.made0(e:TypeId)(w:World)(base n:Nat)(hb:base<=w.heap.size)(hm:n<=maxLen):
   OwnL e (w.alloc (.cells (madeCells #[.bool false,.int .i64 0,.string ⟨#[]⟩] (n*3)) e)) base (.slice (some ⟨w.heap.size,0,none⟩) 0 n) []:=
 World.ownsRow_made w _ n hb hm (by rw[size_madeCells])
theorem RowL.lt(h:RowL e w base g c l):base<=g/\g<w.heap.size:=World.ownsRow.lt h g rfl
theorem RowL.own_at{l':List Vl}(h:RowL e w base g c l)(hl:l.length=n)(he:l=l'):OwnL e w base (.slice (some ⟨g,0,none⟩) n c) l':=by
 subst hl;subst he;exact h
theorem RowL.alloc(h:RowL e w base g c l)(o:Obj):RowL e (w.alloc o) base g c l:=OwnL.alloc h o
theorem RowL.frozen(h:RowL e w base g c l)(j:Nat):w.frozen? ⟨g,j,none⟩=false:=World.ownsRow.frozenAt h j
theorem Ec0(g n:Nat):(⟨g,0,none⟩:Addr).add n=⟨g,n,none⟩:=by
 unfold Addr.add
 by_cases h:n=0
 ·rw[if_pos h,h]
 ·rw[if_neg h,Nat.zero_add]
theorem RowL.at(h:RowL e w base g c l)(hx:l[i]?=some x):w.cell? ⟨g,i*3,none⟩=some (.bool x.nu)/\w.cell? ⟨g,i*3+1,none⟩=some (.int .i64 x.n)/\w.cell? ⟨g,i*3+2,none⟩=some (.string x.s):=by
 obtain⟨ad,h1,_,h3⟩:=(OwnL.read h).at hx
 cases h1
 refine⟨?_,?_,?_⟩
 ·have:=h3.cell (k:=0) rfl;rw[Ec0] at this;exact this
 ·have:=h3.cell (k:=1) rfl;rw[Ec0] at this;exact this
 ·have:=h3.cell (k:=2) rfl;rw[Ec0] at this;exact this
theorem Bg0:∀(l:List Vl)(i k:Nat)(y:Value)(x x':Vl),l[i]?=some x->k<3->x.cells.set k y=x'.cells->(Ac2 l).set (i*3+k) y=Ac2 (l.set i x')
 | [],_,_,_,_,_,h,_,_=>by simp at h
 | z::r,0,k,y,x,x',h,hk,he=>by
   simp at h;subst h
   show(z.cells++Ac2 r).set (0*3+k) y=x'.cells++Ac2 r
   rw[Nat.zero_mul,Nat.zero_add,List.set_append,if_pos (show k<z.cells.length from hk),he]
 | z::r,i+1,k,y,x,x',h,hk,he=>by
   show(z.cells++Ac2 r).set ((i+1)*3+k) y=z.cells++Ac2 (r.set i x')
   rw[List.set_append,if_neg (show ¬(i+1)*3+k<z.cells.length from by show ¬_<3;omega),show(i+1)*3+k-z.cells.length=i*3+k from by show _-3=_;omega,
    Bg0 r i k y x x' (by simpa using h) hk he]
theorem RowL.store(h:RowL e w base g c l)(i k:Nat)(y:Value){x x':Vl}(hx:l[i]?=some x)(hk:k<3)(he:x.cells.set k y=x'.cells):RowL e (w.setCell ⟨g,i*3+k,none⟩ y) base g c (l.set i x'):=by
 have h2:=(World.ownsRow.stored h (i*3+k) y).1
 unfold RowL OwnL
 rw[List.length_set,←Bg0 l i k y x x' hx hk he]
 exact h2
theorem RowL.put(h:RowL e w base g c l)(i:Nat)(x':Vl){x:Vl}(hx:l[i]?=some x):RowL e (((w.setCell ⟨g,i*3,none⟩ (.bool x'.nu)).setCell ⟨g,i*3+1,none⟩ (.int .i64 x'.n)).setCell ⟨g,i*3+2,none⟩ (.string x'.s)) base g c (l.set i x'):=by
 have hi:i<l.length:=(List.getElem?_eq_some_iff.1 hx).1
 have h1:=h.store i 0 (.bool x'.nu) (x':=⟨x'.nu,x.n,x.s⟩) hx (by decide) rfl
 have h2:=h1.store i 1 (.int .i64 x'.n) (x:=⟨x'.nu,x.n,x.s⟩) (x':=⟨x'.nu,x'.n,x.s⟩) (by rw[List.getElem?_set_self hi]) (by decide) rfl
 have h3:=h2.store i 2 (.string x'.s) (x:=⟨x'.nu,x'.n,x.s⟩) (x':=x') (by rw[List.set_set,List.getElem?_set_self hi]) (by decide) rfl
 rw[List.set_set,List.set_set] at h3
 exact h3
theorem Au5{w0:World}(h:Below B w0 w)(hB:B<=g)(i:Nat)(x y z:Value):Below B w0 (((w.setCell ⟨g,i,none⟩ x).setCell ⟨g,i+1,none⟩ y).setCell ⟨g,i+2,none⟩ z):=
 ((h.setCell hB x).setCell hB y).setCell hB z
theorem Al4{α:Type}{b:α}{l t:List α}{n j:Nat}{x:α}(ht:t=l++List.replicate (n-j) b)(hl:l.length=j)(hj:j<n):t.set j x=(l++[x])++List.replicate (n-(j+1)) b:=by
 subst ht;subst hl
 rw[List.set_append_right _ _ (Q1 _),Nat.sub_self]
 obtain⟨d,hd⟩:∃d,n-l.length=d+1:=⟨n-l.length-1,by omega⟩
 rw[hd,show n-(l.length+1)=d from by omega,List.replicate_succ,List.set_cons_zero,List.append_assoc];rfl
theorem Bk0{α:Type}{b:α}{l t:List α}{n j:Nat}(ht:t=l++List.replicate (n-j) b)(hl:l.length=j)(hj:j<n):t[j]?=some b:=by
 subst ht;subst hl
 rw[List.getElem?_append_right (Q1 _),Nat.sub_self,List.getElem?_replicate,if_pos (by omega)]
end
theorem Ax3 {P:Program} {t e:TypeId} {Aa:Nat} (ht:P.underlying t=some (.slice e)) (Ab:(P.info? e).map (fun i=>(i.zero,i.size,i.bytes))=some (some vl0.val,3,Aa))
   (n:Nat) (hb:Aa*n<=281474976710656) (hm:n<=maxLen) (w:World):
   (Instr.makeSlice t (.int .i64 (n:Int)) (.int .i64 (n:Int))).run P w=.ok (.slice (some ⟨w.heap.size,0,none⟩) n n) (w.alloc (.cells (madeCells #[.bool false,.int .i64 0,.string ⟨#[]⟩] (n*3)) e)):=by
 obtain⟨i,hi,hz,Ad,Ac⟩:=info_parts Ab
 unfold maxLen at hm
 have h:=run_make (P:=P) w t e i vl0.val ht hi hz .i64 .i64 n n (by omega) (Int.le_refl _) (by rw[Ac,←Int.natCast_mul];omega) (by omega)
 rw[Int.toNat_natCast,Ad] at h
 exact h
theorem Cz2 {P:Program} {t e:TypeId} {Aa:Nat} (ht:P.underlying t=some (.slice e)) (Ab:(P.info? e).map (fun i=>(i.zero,i.size,i.bytes))=some (some vl0.val,3,Aa))
   (n:Nat) (hb:Aa*n<=281474976710656) (hm:n<=maxLen) (w:World):
   (Instr.makeSlice t (.int .i64 0) (.int .i64 (n:Int))).run P w=.ok (.slice (some ⟨w.heap.size,0,none⟩) 0 n) (w.alloc (.cells (madeCells #[.bool false,.int .i64 0,.string ⟨#[]⟩] (n*3)) e)):=by
 obtain⟨i,hi,hz,Ad,Ac⟩:=info_parts Ab
 unfold maxLen at hm
 have h:=run_make (P:=P) w t e i vl0.val ht hi hz .i64 .i64 0 n (by omega) (by omega) (by rw[Ac,←Int.natCast_mul];omega) (by omega)
 rw[Int.toNat_natCast,Ad] at h
 exact h
end Go.VS
namespace Go.RS
open RowKit VB VS MK
structure Sl where
 A:Option Addr
 n:Nat
 c:Nat
def Sl.val(s:Sl):Value:=.slice s.A s.n s.c
def sl0:Sl:=⟨none,0,0⟩
structure Rs where
 seq:Int
 row:Sl
def recL:Lay Rs where
 K:=2
 cs x:=[.int .i64 x.seq,x.row.val]
 len _:=rfl
 pos:=by decide
 one x u hu:=by
  simp only[List.mem_cons,List.not_mem_nil,or_false] at hu
  rcases hu with rfl | rfl<;>rfl
 z:=⟨0,sl0⟩
 zv:=.agg #[.int .i64 0,.slice none 0 0]
 zc:=rfl
structure Rc where
 seq:Int
 row:List Vl
def DeepL(w:World)(B:Nat)(ps:List Sl)(ls:List (List Vl)):Prop:=ps.length=ls.length/\∀(i:Nat)(p:Sl)(l:List Vl),ps[i]?=some p->ls[i]?=some l->RdL w B p.val l
def DeepR(w:World)(B:Nat)(ps:List Rs)(l:List Rc):Prop:=ps.length=l.length/\∀(i:Nat)(p:Rs)(r:Rc),ps[i]?=some p->l[i]?=some r->p.seq=r.seq/\RdL w B p.row.val r.row
def RdLL(w:World)(B:Nat)(v:Value)(ls:List (List Vl)):Prop:=∃ps,RdV Sl.val w B v ps/\DeepL w B ps ls
def RdR(w:World)(B:Nat)(v:Value)(l:List Rc):Prop:=∃ps,RdK recL w B v ps/\DeepR w B ps l
section
variable {w w':World} {B B':Nat} {v:Value} {ps:List Sl} {qs:List Rs} {ls ms:List (List Vl)} {l m:List Rc} {A:Option Addr} {n c i:Nat}
theorem DeepL.below(h:DeepL w B ps ls)(hb:Below B w w'):DeepL w' B ps ls:=⟨h.1,fun i p l h1 h2=>(h.2 i p l h1 h2).below hb⟩
theorem DeepL.more(h:DeepL w B ps ls)(hB:B<=B'):DeepL w B' ps ls:=⟨h.1,fun i p l h1 h2=>(h.2 i p l h1 h2).more hB⟩
theorem DeepL.step(h:DeepL w w.heap.size ps ls)(hb:Below w.heap.size w w'):DeepL w' w'.heap.size ps ls:=(h.below hb).more hb.size
theorem DeepL.nil(w:World)(B:Nat):DeepL w B [] []:=⟨rfl,fun i p l h _=>by simp at h⟩
theorem DeepR.below(h:DeepR w B qs l)(hb:Below B w w'):DeepR w' B qs l:=⟨h.1,fun i p r h1 h2=>⟨(h.2 i p r h1 h2).1,(h.2 i p r h1 h2).2.below hb⟩⟩
theorem DeepR.more(h:DeepR w B qs l)(hB:B<=B'):DeepR w B' qs l:=⟨h.1,fun i p r h1 h2=>⟨(h.2 i p r h1 h2).1,(h.2 i p r h1 h2).2.more hB⟩⟩
theorem DeepR.nil(w:World)(B:Nat):DeepR w B [] []:=⟨rfl,fun i p r h _=>by simp at h⟩
theorem DeepR.app{Aa:List Rs}(h:DeepR w B qs l)(h':DeepR w B Aa m):DeepR w B (qs++Aa) (l++m):=by
 refine⟨by rw[Q5,Q5,h.1,h'.1],fun i p r h1 h2=>?_⟩
 by_cases hi:i<qs.length
 ·rw[List.getElem?_append_left hi] at h1
  rw[List.getElem?_append_left (by rw[←h.1];exact hi)] at h2
  exact h.2 i p r h1 h2
 ·rw[List.getElem?_append_right (by omega)] at h1
  rw[List.getElem?_append_right (by rw[←h.1];omega),←h.1] at h2
  exact h'.2 _ p r h1 h2
theorem DeepR.one{p:Rs}{r:Rc}(h1:p.seq=r.seq)(h:RdL w B p.row.val r.row):DeepR w B [p] [r]:=by
 refine⟨rfl,fun i p' r' h1' h2'=>?_⟩
 match i,h1',h2' with
 | 0,h1',h2'=>cases h1';cases h2';exact⟨h1,h⟩
theorem DeepR.get(h:DeepR w B qs l){r:Rc}(hr:l[i]?=some r):∃p,qs[i]?=some p/\p.seq=r.seq/\RdL w B p.row.val r.row:=by
 have hi:i<qs.length:=by rw[h.1];exact(List.getElem?_eq_some_iff.1 hr).1
 exact⟨qs[i],Q7 hi,h.2 i _ r (Q7 hi) hr⟩
theorem DeepR.take(h:DeepR w B qs l)(k:Nat):DeepR w B (qs.take k) (l.take k):=by
 refine⟨by rw[List.length_take,List.length_take,h.1],fun i p r h1 h2=>?_⟩
 by_cases hi:i<k
 ·rw[List.getElem?_take,if_pos hi] at h1 h2;exact h.2 i p r h1 h2
 ·rw[List.getElem?_take,if_neg hi] at h1;cases h1
theorem DeepR.drop(h:DeepR w B qs l)(k:Nat):DeepR w B (qs.drop k) (l.drop k):=by
 refine⟨by rw[List.length_drop,List.length_drop,h.1],fun i p r h1 h2=>?_⟩
 rw[List.getElem?_drop] at h1 h2
 exact h.2 _ p r h1 h2
theorem RdLL.nil(w:World)(B:Nat):RdLL w B (.slice none 0 0) []:=⟨[],RdV.nil _ _ _,DeepL.nil w B⟩
theorem RdR.nil(w:World)(B:Nat):RdR w B (.slice none 0 0) []:=⟨[],RdK.nil _ _ _,DeepR.nil w B⟩
theorem RdR.below(h:RdR w B v l)(hb:Below B w w'):RdR w' B v l:=by
 obtain⟨ps,h1,h2⟩:=h;exact⟨ps,h1.below hb,h2.below hb⟩
theorem RdR.more(h:RdR w B v l)(hB:B<=B'):RdR w B' v l:=by
 obtain⟨ps,h1,h2⟩:=h;exact⟨ps,h1.more hB,h2.more hB⟩
theorem RdR.step(h:RdR w w.heap.size v l)(hb:Below w.heap.size w w'):RdR w' w'.heap.size v l:=(h.below hb).more hb.size
theorem RdR.bds(h:RdR w B v l):∃A c n,v=.slice A n c/\n=l.length/\n<=c/\c<=9223372036854775807:=by
 obtain⟨ps,h1,h2⟩:=h
 obtain⟨A,c,n,e,hn,h3,h4⟩:=h1.bds
 exact⟨A,c,n,e,hn.trans h2.1,h3,h4⟩
theorem RdR.at(h:RdR w B (.slice A n c) l){r:Rc}(hr:l[i]?=some r):∃ad rA rn rc,A=some ad/\ad.block<B/\w.cell? (ad.add (i*2))=some (.int .i64 r.seq)/\w.cell? ⟨(ad.add (i*2)).block,(ad.add (i*2)).off+1,none⟩=some (.slice rA rn rc)/\rn=r.row.length/\RdL w B (.slice rA rn rc) r.row:=by
 obtain⟨ps,h1,h2⟩:=h
 obtain⟨⟨Aa,⟨rA,rn,rc⟩⟩,hp,hs,hd⟩:=h2.get hr
 obtain⟨ad,e,hb,ha⟩:=h1.at hp
 simp only at hs
 subst hs
 obtain⟨_,_,_,e2,e3,_,_⟩:=hd.bds
 cases e2
 exact⟨ad,rA,rn,rc,e,hb,ha.c0 rfl,ha.ck 1 (by decide) rfl,e3,hd⟩
end
end Go.RS
