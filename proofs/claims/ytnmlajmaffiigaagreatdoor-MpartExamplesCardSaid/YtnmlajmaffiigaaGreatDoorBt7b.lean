/- The statements' own package: Split. -/
import Derived.Test.YtnmlajmaffiigaaGreatDoorBt6
import Derived.Test.YtnmlajmaffiigaaGreatDoorBt5b
namespace Go.RS
open Go.RowKit Go.VB Go.VS Go.VL Go.SC Go.CK Go.ST Go.MK
/-- The slices hold these lists of records; each is the call's own, their rows lie in the world W. -/
def DeepPK (e : TypeId) (W w : World) (b : Nat) (ps : List Sl) (rs : List (List Rc)) : Prop := ps.length = rs.length ∧ ∀ (i : Nat) (p : Sl) (l : List Rc), ps[i]? = some p → rs[i]? = some l → ∃ qs, OwnK recL e w b p.val qs ∧ DeepR W W.heap.size qs l
section
variable {e : TypeId} {W w w' : World} {b b' : Nat} {ps : List Sl} {rs : List (List Rc)}
theorem DeepPK.nil (e : TypeId) (W w : World) (b : Nat) : DeepPK e W w b [] [] := ⟨rfl, fun i p r h _ => by simp at h⟩
theorem DeepPK.below (h : DeepPK e W w b ps rs) (hb : Below w.heap.size w w') : DeepPK e W w' b ps rs := ⟨h.1, fun i p r h1 h2 => by obtain ⟨qs, h3, h4⟩ := h.2 i p r h1 h2; exact ⟨qs, h3.below hb, h4⟩⟩
theorem DeepPK.read (h : DeepPK e W w b ps rs) (hb : Below W.heap.size W w) : DeepP w w.heap.size ps rs := ⟨h.1, fun i p r h1 h2 => by
  obtain ⟨qs, h3, h4⟩ := h.2 i p r h1 h2
  exact ⟨qs, OwnK.read h3, (h4.below hb).more hb.size⟩⟩
end
end Go.RS
namespace Go.Proofs.YtnmlajmaffiigaaGreatDoor
open Go.RowKit Go.VB Go.VS Go.VL Go.SC Go.CK Go.ST Go.MK Go.RS
set_option linter.constructorNameAsVariable false
end Go.Proofs.YtnmlajmaffiigaaGreatDoor

namespace Go.RS
open Go.RowKit Go.VB Go.VS Go.VL Go.SC Go.CK Go.ST Go.MK
end Go.RS
namespace Go.Proofs.YtnmlajmaffiigaaGreatDoor
open Go.RowKit Go.VB Go.VS Go.VL Go.SC Go.CK Go.ST Go.MK Go.RS
set_option linter.constructorNameAsVariable false
end Go.Proofs.YtnmlajmaffiigaaGreatDoor
