/- Struct variables of three and four cells. -/
import Derived.Test.YtjbkeipagdmlpaaKit
namespace Go.VL
open Go.RowKit Go.VB
/-- A variable of three cells in block b. -/
structure Var3 (w : World) (b : Nat) (x y z : Value) : Prop where
  c0 : w.cell? ⟨b, 0, none⟩ = some x
  c1 : w.cell? ⟨b, 1, none⟩ = some y
  c2 : w.cell? ⟨b, 2, none⟩ = some z
  f0 : w.frozen? ⟨b, 0, none⟩ = false
  f1 : w.frozen? ⟨b, 1, none⟩ = false
  f2 : w.frozen? ⟨b, 2, none⟩ = false
theorem Var3.new (w : World) (x y z : Value) (T : TypeId) : Var3 (w.alloc (.cells #[x, y, z] T)) w.heap.size x y z := by
  constructor <;> simp
theorem Var3.lt {w : World} {b : Nat} {x y z : Value} (h : Var3 w b x y z) : b < w.heap.size := World.block_lt_of_cell? w _ h.c0
theorem Var3.below {w w' : World} {b B : Nat} {x y z : Value} (h : Var3 w b x y z) (hb : Below B w w') (hB : b < B) : Var3 w' b x y z := by
  constructor
  · rw [hb.cell hB]; exact h.c0
  · rw [hb.cell hB]; exact h.c1
  · rw [hb.cell hB]; exact h.c2
  · rw [hb.frozen hB]; exact h.f0
  · rw [hb.frozen hB]; exact h.f1
  · rw [hb.frozen hB]; exact h.f2
theorem Var3.step {w w' : World} {b : Nat} {x y z : Value} (h : Var3 w b x y z) (hb : Below w.heap.size w w') : Var3 w' b x y z := h.below hb h.lt
theorem Var3.set {w : World} {b : Nat} {x y z : Value} (h : Var3 w b x y z) (x' y' z' : Value) : Var3 (((w.setCell ⟨b, 0, none⟩ x').setCell ⟨b, 1, none⟩ y').setCell ⟨b, 2, none⟩ z') b x' y' z' := by
  constructor
  · rw [World.cell?_setCell_other _ _ _ _ (by simp), World.cell?_setCell_other _ _ _ _ (by simp), World.cell?_setCell_same _ _ _ h.c0]
  · rw [World.cell?_setCell_other _ _ _ _ (by simp), World.cell?_setCell_same _ _ _ ((World.cell?_setCell_other _ _ _ _ (by simp)).trans h.c1)]
  · rw [World.cell?_setCell_same _ _ _ ((World.cell?_setCell_other _ _ _ _ (by simp)).trans ((World.cell?_setCell_other _ _ _ _ (by simp)).trans h.c2))]
  · rw [World.frozen?_setCell, World.frozen?_setCell, World.frozen?_setCell]; exact h.f0
  · rw [World.frozen?_setCell, World.frozen?_setCell, World.frozen?_setCell]; exact h.f1
  · rw [World.frozen?_setCell, World.frozen?_setCell, World.frozen?_setCell]; exact h.f2
/-- Another variable stands while this one is written. -/
theorem Var3.other {w : World} {b c : Nat} {x y z : Value} (h : Var3 w b x y z) (hc : b ≠ c) (x' y' z' : Value) : Var3 (((w.setCell ⟨c, 0, none⟩ x').setCell ⟨c, 1, none⟩ y').setCell ⟨c, 2, none⟩ z') b x y z := by
  have hk : ∀ (i j : Nat), (⟨c, i, none⟩ : Addr) ≠ ⟨b, j, none⟩ := fun i j e => hc (congrArg Addr.block e).symm
  constructor
  · rw [World.cell?_setCell_other _ _ _ _ (hk _ _), World.cell?_setCell_other _ _ _ _ (hk _ _), World.cell?_setCell_other _ _ _ _ (hk _ _)]; exact h.c0
  · rw [World.cell?_setCell_other _ _ _ _ (hk _ _), World.cell?_setCell_other _ _ _ _ (hk _ _), World.cell?_setCell_other _ _ _ _ (hk _ _)]; exact h.c1
  · rw [World.cell?_setCell_other _ _ _ _ (hk _ _), World.cell?_setCell_other _ _ _ _ (hk _ _), World.cell?_setCell_other _ _ _ _ (hk _ _)]; exact h.c2
  · rw [World.frozen?_setCell, World.frozen?_setCell, World.frozen?_setCell]; exact h.f0
  · rw [World.frozen?_setCell, World.frozen?_setCell, World.frozen?_setCell]; exact h.f1
  · rw [World.frozen?_setCell, World.frozen?_setCell, World.frozen?_setCell]; exact h.f2
theorem set3_below {B : Nat} {w0 w : World} {b : Nat} (h : Below B w0 w) (hB : B ≤ b) (x y z : Value) : Below B w0 (((w.setCell ⟨b, 0, none⟩ x).setCell ⟨b, 1, none⟩ y).setCell ⟨b, 2, none⟩ z) :=
  ((h.setCell (p := ⟨b, 0, none⟩) hB x).setCell (p := ⟨b, 1, none⟩) hB y).setCell (p := ⟨b, 2, none⟩) hB z
/-- A variable of four cells in block b. -/
structure Var4 (w : World) (b : Nat) (x y z u : Value) : Prop where
  c0 : w.cell? ⟨b, 0, none⟩ = some x
  c1 : w.cell? ⟨b, 1, none⟩ = some y
  c2 : w.cell? ⟨b, 2, none⟩ = some z
  c3 : w.cell? ⟨b, 3, none⟩ = some u
theorem Var4.new (w : World) (x y z u : Value) (T : TypeId) : Var4 (w.alloc (.cells #[x, y, z, u] T)) w.heap.size x y z u := by
  constructor <;> simp
theorem Var4.lt {w : World} {b : Nat} {x y z u : Value} (h : Var4 w b x y z u) : b < w.heap.size := World.block_lt_of_cell? w _ h.c0
theorem Var4.below {w w' : World} {b B : Nat} {x y z u : Value} (h : Var4 w b x y z u) (hb : Below B w w') (hB : b < B) : Var4 w' b x y z u := by
  constructor
  · rw [hb.cell hB]; exact h.c0
  · rw [hb.cell hB]; exact h.c1
  · rw [hb.cell hB]; exact h.c2
  · rw [hb.cell hB]; exact h.c3
theorem Var4.step {w w' : World} {b : Nat} {x y z u : Value} (h : Var4 w b x y z u) (hb : Below w.heap.size w w') : Var4 w' b x y z u := h.below hb h.lt
theorem Var4.other {w : World} {b c : Nat} {x y z u : Value} (h : Var4 w b x y z u) (hc : b ≠ c) (x' y' z' : Value) : Var4 (((w.setCell ⟨c, 0, none⟩ x').setCell ⟨c, 1, none⟩ y').setCell ⟨c, 2, none⟩ z') b x y z u := by
  have hk : ∀ (i j : Nat), (⟨c, i, none⟩ : Addr) ≠ ⟨b, j, none⟩ := fun i j e => hc (congrArg Addr.block e).symm
  constructor
  · rw [World.cell?_setCell_other _ _ _ _ (hk _ _), World.cell?_setCell_other _ _ _ _ (hk _ _), World.cell?_setCell_other _ _ _ _ (hk _ _)]; exact h.c0
  · rw [World.cell?_setCell_other _ _ _ _ (hk _ _), World.cell?_setCell_other _ _ _ _ (hk _ _), World.cell?_setCell_other _ _ _ _ (hk _ _)]; exact h.c1
  · rw [World.cell?_setCell_other _ _ _ _ (hk _ _), World.cell?_setCell_other _ _ _ _ (hk _ _), World.cell?_setCell_other _ _ _ _ (hk _ _)]; exact h.c2
  · rw [World.cell?_setCell_other _ _ _ _ (hk _ _), World.cell?_setCell_other _ _ _ _ (hk _ _), World.cell?_setCell_other _ _ _ _ (hk _ _)]; exact h.c3
end Go.VL
