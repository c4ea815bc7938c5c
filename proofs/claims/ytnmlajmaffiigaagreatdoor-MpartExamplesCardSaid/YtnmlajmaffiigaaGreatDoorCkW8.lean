/- The walks over package chunk: getPlainValue, getPlain, getPayload. -/
import Derived.Test.YtnmlajmaffiigaaGreatDoorCkW4
import Derived.Test.YtnmlajmaffiigaaGreatDoorChk
namespace Go.CK
open Go.RowKit Go.VB Go.VS
end Go.CK
namespace Go.Proofs.YtnmlajmaffiigaaGreatDoor
open Go.RowKit Go.VB Go.VarM Go.BP Go.RL Go.VS Go.VL Go.DI Go.CK Go.NU
section
variable (typ : Int) (s : ByteArray) (p : Int) (W : World) (zs : s.size ≤ 140737488351232)
include zs
end
end Go.Proofs.YtnmlajmaffiigaaGreatDoor

namespace Go.CK
open Go.RowKit Go.VB Go.VarM Go.BP Go.VS Go.NU
/-- It returns marks and a place, and whether they are what D finds. -/
def NuP (D : Option (List Bool × Nat)) (w : World) : Ending → World → Prop := fun en w' =>
  ∃ v b q ok, en = .returned (.tuple #[v, .int .i64 q, .bool ok]) ∧ RdV Value.bool w' w'.heap.size v b ∧ ((ok = true ∧ ∃ k : Nat, q = k ∧ D = some (b, k)) ∨ (ok = false ∧ D = none)) ∧ Below w.heap.size w w'
theorem NuP.no {D : Option (List Bool × Nat)} {w w' : World} {x : Value} {q : Int} (hx : x = .tuple #[.slice none 0 0, .int .i64 q, .bool false]) (hd : D = none) (hb : Below w.heap.size w w') : NuP D w (.returned x) w' := ⟨_, _, _, _, by rw [hx], RdV.nil _ _ _, .inr ⟨rfl, hd⟩, hb⟩
section
variable {s : ByteArray} {p q : Int} {n e k r f m : Nat}
end
end Go.CK
namespace Go.Proofs.YtnmlajmaffiigaaGreatDoor
open Go.RowKit Go.VB Go.VarM Go.BP Go.RL Go.VS Go.VL Go.DI Go.CK Go.NU
section
variable (typ : Int) (s : ByteArray) (n : Nat) (W : World) (zs : s.size ≤ 140737488351232) (hn : n ≤ 4096)
include zs hn
end
section
variable (s : ByteArray) (p : Int) (W : World) (zs : s.size ≤ 140737488351232)
include zs
section
variable {n k r m : Nat} {q : Int} (h1 : getR s p = (n, q, 0)) (hn : n ≤ 4096) (h2 : getR s q = (k, (r : Int), 0)) (hk : k ≠ 0) (hm : (n + 7) / 8 = m) (hr : r ≤ s.size)
include h1 hn h2 hk hm hr
end
end
end Go.Proofs.YtnmlajmaffiigaaGreatDoor

namespace Go.CK
open Go.RowKit Go.VB Go.VarM Go.BP Go.VS Go.NU Go.VL
/-- It returns the values l and the code c; what was there is as it was. -/
def RetRdE (l : List Vl) (c : Nat) (w : World) : Ending → World → Prop := fun en w' => ∃ v, en = .returned (.tuple #[v, .int .i64 (c : Int)]) ∧ RdL w' w'.heap.size v l ∧ Below w.heap.size w w'
theorem RetRdE.of {e : TypeId} {l : List Vl} {c : Nat} {w w' : World} {en : Ending} (h : RetVlE e l c w en w') : RetRdE l c w en w' := by
  obtain ⟨v, rfl, ho, hb⟩ := h
  exact ⟨v, rfl, ho.read, hb⟩
end Go.CK
namespace Go.Proofs.YtnmlajmaffiigaaGreatDoor
open Go.RowKit Go.VB Go.VarM Go.BP Go.RL Go.VS Go.VL Go.DI Go.CK Go.NU
section
variable (typ : Int) (s : ByteArray) (W : World) (hT : okT typ = true) (zs : s.size ≤ 140737488351232) (h1 : 1 ≤ s.size)
include hT zs h1
end
section
variable (nm : ByteArray) (ty sc : Int) (nu : Bool) (s : ByteArray) (W : World) (zs : s.size ≤ 140737488351232)
include zs
end
end Go.Proofs.YtnmlajmaffiigaaGreatDoor
