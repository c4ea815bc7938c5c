/- The walks over the reference: EncodeDict. -/
import Derived.Test.YtnmlajmaffiigaaGreatDoorGe
import Derived.Test.YtnmlajmaffiigaaGreatDoorGq
namespace Go.Proofs.YtnmlajmaffiigaaGreatDoor
open Go.RowKit Go.VB Go.VarM Go.BP Go.RL Go.DI
end Go.Proofs.YtnmlajmaffiigaaGreatDoor

namespace Go.VB
open Go.RowKit
theorem RowV.belowB {α : Type} {f : α → Value} {e : TypeId} {w w' : World} {base g c B : Nat} {l : List α} (h : RowV f e w base g c l) (hb : Below B w w') (hg : g < B) : RowV f e w' base g c l := by
  have h' : w.ownsRow base e 1 (.slice (some ⟨g, 0, none⟩) l.length c) l.length (l.map f) := h
  refine ⟨h'.1, ?_⟩
  rcases h'.2 with ⟨hv, hn⟩ | ⟨g', cap, cur, hv, h1, h2, h3⟩
  · exact .inl ⟨hv, hn⟩
  · cases hv
    exact .inr ⟨g, c, cur, rfl, h1, (hb.block g hg).trans h2, h3⟩
end Go.VB
namespace Go.DI
open Go.RowKit Go.VB Go.BP Go.VarM
end Go.DI
namespace Go.Proofs.YtnmlajmaffiigaaGreatDoor
open Go.RowKit Go.VB Go.VarM Go.BP Go.RL Go.DI
section
variable (s : ByteArray) (hs : s.size ≤ 140737488351232)
include hs
end
end Go.Proofs.YtnmlajmaffiigaaGreatDoor

namespace Go.DI
open Go.RowKit Go.VB
end Go.DI
namespace Go.Proofs.YtnmlajmaffiigaaGreatDoor
open Go.RowKit Go.VB Go.VarM Go.BP Go.RL Go.DI Go.KS
section
variable (s : ByteArray) (hs : s.size ≤ 140737488351232)
include hs
end
end Go.Proofs.YtnmlajmaffiigaaGreatDoor
