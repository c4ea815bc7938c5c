/- The walk over the reference's reading of differences. -/
import Derived.Test.YtnmlajmaffiigaaGreatDoorDlt
import Derived.Test.YtnmlajmaffiigaaGreatDoorDltW6
import Derived.Deep.RegionLaw
namespace Go.VB
open Go.RowKit
/-- []T{x}. -/
theorem OwnV.one {α : Type} (f : α → Value) (x : α) (e : TypeId) (w : World) (base : Nat) (hb : base ≤ w.heap.size) : OwnV f e (w.alloc (.cells #[f x] e)) base (.slice (some ⟨w.heap.size, 0, none⟩) 1 1) [x] :=
  World.ownsRow_lit (base := base) (e := e) (size := 1) w #[f x] 1 hb (by decide) rfl
end Go.VB
namespace Go.DL
open Go.RowKit Go.VB Go.VarM Go.BP Go.RL
end Go.DL
namespace Go.Proofs.YtnmlajmaffiigaaGreatDoor
open Go.RowKit Go.VB Go.VarM Go.BP Go.RL Go.DL
end Go.Proofs.YtnmlajmaffiigaaGreatDoor
