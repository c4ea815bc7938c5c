/- A variable of four cells that can be written (parted from SchC3). -/
import Derived.Test.YtjbkeipagdmlpaaSchW3
namespace Go.SC
open Go.RowKit Go.VB Go.VL
/-- A variable of four cells in block b, which can be written. -/
structure Var4F (w : World) (b : Nat) (x y z u : Value) : Prop where
  c0 : w.cell? ⟨b, 0, none⟩ = some x
  c1 : w.cell? ⟨b, 1, none⟩ = some y
  c2 : w.cell? ⟨b, 2, none⟩ = some z
  c3 : w.cell? ⟨b, 3, none⟩ = some u
  f0 : w.frozen? ⟨b, 0, none⟩ = false
  f1 : w.frozen? ⟨b, 1, none⟩ = false
  f2 : w.frozen? ⟨b, 2, none⟩ = false
  f3 : w.frozen? ⟨b, 3, none⟩ = false
theorem Var4F.new (w : World) (x y z u : Value) (T : TypeId) : Var4F (w.alloc (.cells #[x, y, z, u] T)) w.heap.size x y z u := by
  constructor <;> simp
theorem Var4F.lt {w : World} {b : Nat} {x y z u : Value} (h : Var4F w b x y z u) : b < w.heap.size := World.block_lt_of_cell? w _ h.c0
theorem Var4F.below {w w' : World} {b B : Nat} {x y z u : Value} (h : Var4F w b x y z u) (hb : Below B w w') (hB : b < B) : Var4F w' b x y z u := by
  constructor
  · rw [hb.cell hB]; exact h.c0
  · rw [hb.cell hB]; exact h.c1
  · rw [hb.cell hB]; exact h.c2
  · rw [hb.cell hB]; exact h.c3
  · rw [hb.frozen hB]; exact h.f0
  · rw [hb.frozen hB]; exact h.f1
  · rw [hb.frozen hB]; exact h.f2
  · rw [hb.frozen hB]; exact h.f3
theorem Var4F.step {w w' : World} {b : Nat} {x y z u : Value} (h : Var4F w b x y z u) (hb : Below w.heap.size w w') : Var4F w' b x y z u := h.below hb h.lt
theorem Var4F.set {w : World} {b : Nat} {x y z u : Value} (h : Var4F w b x y z u) (x' y' z' u' : Value) :
    Var4F ((((w.setCell ⟨b, 0, none⟩ x').setCell ⟨b, 1, none⟩ y').setCell ⟨b, 2, none⟩ z').setCell ⟨b, 3, none⟩ u') b x' y' z' u' := by
  have s1 := World.cell?_setCell_same w ⟨b, 0, none⟩ x' h.c0
  have k : ∀ (w : World) (i j : Nat) (v : Value), i ≠ j → (w.setCell ⟨b, i, none⟩ v).cell? ⟨b, j, none⟩ = w.cell? ⟨b, j, none⟩ := fun w i j v hij => World.cell?_setCell_other _ _ _ _ (fun e => hij (congrArg Addr.off e))
  constructor
  · rw [k _ 3 0 _ (by decide), k _ 2 0 _ (by decide), k _ 1 0 _ (by decide)]; exact World.cell?_setCell_same _ _ _ h.c0
  · rw [k _ 3 1 _ (by decide), k _ 2 1 _ (by decide)]; exact World.cell?_setCell_same _ _ _ ((k _ 0 1 _ (by decide)).trans h.c1)
  · rw [k _ 3 2 _ (by decide)]; exact World.cell?_setCell_same _ _ _ ((k _ 1 2 _ (by decide)).trans ((k _ 0 2 _ (by decide)).trans h.c2))
  · exact World.cell?_setCell_same _ _ _ ((k _ 2 3 _ (by decide)).trans ((k _ 1 3 _ (by decide)).trans ((k _ 0 3 _ (by decide)).trans h.c3)))
  all_goals
    simp only [World.frozen?_setCell]
    first | exact h.f0 | exact h.f1 | exact h.f2 | exact h.f3
theorem set4_below {B : Nat} {w0 w : World} {b : Nat} (h : Below B w0 w) (hB : B ≤ b) (x y z u : Value) : Below B w0 ((((w.setCell ⟨b, 0, none⟩ x).setCell ⟨b, 1, none⟩ y).setCell ⟨b, 2, none⟩ z).setCell ⟨b, 3, none⟩ u) :=
  (((h.setCell (p := ⟨b, 0, none⟩) hB x).setCell (p := ⟨b, 1, none⟩) hB y).setCell (p := ⟨b, 2, none⟩) hB z).setCell (p := ⟨b, 3, none⟩) hB u
end Go.SC
