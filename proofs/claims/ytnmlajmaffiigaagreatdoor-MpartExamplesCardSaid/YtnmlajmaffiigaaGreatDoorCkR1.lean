/- The walks over the reference's chunks: Uses, payload, Build. -/
import Derived.Test.YtnmlajmaffiigaaGreatDoorCkW4
import Derived.Test.YtnmlajmaffiigaaGreatDoorDltW6
import Derived.Deep.RegionWith
import Derived.Deep.CutRange
import Derived.Test.YtnmlajmaffiigaaGreatDoorCkW1
namespace Go.CK
open Go.RowKit Go.VB Go.VarM Go.BP Go.VS Go.NU Go.VL
/-- Rows of different types of elements lie in different blocks. -/
theorem own_apart {e e' : TypeId} (he : e ≠ e') {w : World} {base base' : Nat} {v v' : Value} {l : List Bool} {l' : List Vl} (h : OwnV Value.bool e w base v l) (h' : OwnL e' w base' v' l') : v'.ownBlock = none ∨ v'.ownBlock ≠ v.ownBlock := by
  rcases h'.2 with ⟨rfl, _⟩ | ⟨g', c', cur', rfl, _, hg', _⟩
  · exact .inl rfl
  · refine .inr fun e0 => ?_
    rcases h.2 with ⟨rfl, _⟩ | ⟨g, c, cur, rfl, _, hg, _⟩
    · cases e0
    · have : g' = g := Option.some.inj e0
      subst this
      rw [hg] at hg'
      injection hg' with h1
      injection h1 with _ h2
      exact he h2
end Go.CK
namespace Go.Proofs.YtnmlajmaffiigaaGreatDoor
open Go.RowKit Go.VB Go.VarM Go.BP Go.RL Go.VS Go.VL Go.DI Go.CK Go.NU
section
variable (typ : Int) (v : Value) (l : List Vl) (W : World) (hr : RdL W W.heap.size v l) (hl : l.length ≤ 4096) (hv : ∀ x ∈ l, Vok x)
include hr hl hv
end
end Go.Proofs.YtnmlajmaffiigaaGreatDoor

namespace Go.VB
open Go.RowKit
end Go.VB
namespace Go.CK
open Go.RowKit Go.VB Go.VarM
end Go.CK
namespace Go.Proofs.YtnmlajmaffiigaaGreatDoor
open Go.RowKit Go.VB Go.VarM Go.BP Go.RL Go.VS Go.VL Go.DI Go.CK Go.NU
end Go.Proofs.YtnmlajmaffiigaaGreatDoor

namespace Go.CK
open Go.RowKit Go.VB Go.VarM Go.BP Go.VS Go.NU Go.VL
end Go.CK
namespace Go.Proofs.YtnmlajmaffiigaaGreatDoor
open Go.RowKit Go.VB Go.VarM Go.BP Go.RL Go.VS Go.VL Go.DI Go.CK Go.NU
section
variable (nm : ByteArray) (ty sc : Int) (nu : Bool) (v : Value) (l : List Vl) (W : World)
end
end Go.Proofs.YtnmlajmaffiigaaGreatDoor
