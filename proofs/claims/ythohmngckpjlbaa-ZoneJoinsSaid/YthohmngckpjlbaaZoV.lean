/- Variables of eight cells: a zone. -/
import Derived.Test.YthohmngckpjlbaaZon
import Derived.Test.YthohmngckpjlbaaValV
namespace Go.ZN
open Go.RowKit Go.VB Go.VS Go.VL
theorem var3_at {w w1 : World} {n : Nat} {x y z : Value} {T : TypeId} (hn : w.heap.size = n) (hb : Below (w.alloc (.cells #[x, y, z] T)).heap.size (w.alloc (.cells #[x, y, z] T)) w1) : Var3 w1 n x y z := by
  subst hn; exact (Var3.new w x y z T).step hb
/-- One cell of another variable is written. -/
theorem var3_oth {w : World} {b c : Nat} {x y z : Value} (h : Var3 w b x y z) (hc : b ≠ c) (i : Nat) (u : Value) : Var3 (w.setCell ⟨c, i, none⟩ u) b x y z := by
  have hk : ∀ (i j : Nat), (⟨c, i, none⟩ : Addr) ≠ ⟨b, j, none⟩ := fun i j e => hc (congrArg Addr.block e).symm
  constructor
  · rw [World.cell?_setCell_other _ _ _ _ (hk _ _)]; exact h.c0
  · rw [World.cell?_setCell_other _ _ _ _ (hk _ _)]; exact h.c1
  · rw [World.cell?_setCell_other _ _ _ _ (hk _ _)]; exact h.c2
  · rw [World.frozen?_setCell]; exact h.f0
  · rw [World.frozen?_setCell]; exact h.f1
  · rw [World.frozen?_setCell]; exact h.f2
/-- A variable of eight cells in block b, which holds a zone. -/
structure VarZ (w : World) (b : Nat) (z : Zn) : Prop where
  c0 : w.cell? ⟨b, 0, none⟩ = some (.int .i64 z.rows)
  c1 : w.cell? ⟨b, 1, none⟩ = some (.int .i64 z.nulls)
  c2 : w.cell? ⟨b, 2, none⟩ = some (.bool z.mn.nu)
  c3 : w.cell? ⟨b, 3, none⟩ = some (.int .i64 z.mn.n)
  c4 : w.cell? ⟨b, 4, none⟩ = some (.string z.mn.s)
  c5 : w.cell? ⟨b, 5, none⟩ = some (.bool z.mx.nu)
  c6 : w.cell? ⟨b, 6, none⟩ = some (.int .i64 z.mx.n)
  c7 : w.cell? ⟨b, 7, none⟩ = some (.string z.mx.s)
  fr : ∀ i, i < 8 → w.frozen? ⟨b, i, none⟩ = false
section
variable {w w' w0 : World} {b c B : Nat} {z : Zn} {x y u : Value}
theorem VarZ.new (w : World) (z : Zn) (T : TypeId) : VarZ (w.alloc (.cells #[.int .i64 (z.rows), .int .i64 (z.nulls), .bool (z.mn.nu), .int .i64 (z.mn.n), .string (z.mn.s), .bool (z.mx.nu), .int .i64 (z.mx.n), .string (z.mx.s)] T)) w.heap.size z := by
  constructor
  · simp
  · simp
  · simp
  · simp
  · simp
  · simp
  · simp
  · simp
  · intro i hi
    simp
theorem VarZ.frz (h : VarZ w b z) : w.frozen? ⟨b, 0, none⟩ = false ∧ w.frozen? ⟨b, 1, none⟩ = false ∧ w.frozen? ⟨b, 2, none⟩ = false ∧ w.frozen? ⟨b, 3, none⟩ = false ∧ w.frozen? ⟨b, 4, none⟩ = false ∧ w.frozen? ⟨b, 5, none⟩ = false ∧ w.frozen? ⟨b, 6, none⟩ = false ∧ w.frozen? ⟨b, 7, none⟩ = false :=
  ⟨h.fr 0 (by decide), h.fr 1 (by decide), h.fr 2 (by decide), h.fr 3 (by decide), h.fr 4 (by decide), h.fr 5 (by decide), h.fr 6 (by decide), h.fr 7 (by decide)⟩
theorem VarZ.lt (h : VarZ w b z) : b < w.heap.size := World.block_lt_of_cell? w _ h.c0
theorem VarZ.below (h : VarZ w b z) (hb : Below B w w') (hB : b < B) : VarZ w' b z := by
  constructor
  · rw [hb.cell hB]; exact h.c0
  · rw [hb.cell hB]; exact h.c1
  · rw [hb.cell hB]; exact h.c2
  · rw [hb.cell hB]; exact h.c3
  · rw [hb.cell hB]; exact h.c4
  · rw [hb.cell hB]; exact h.c5
  · rw [hb.cell hB]; exact h.c6
  · rw [hb.cell hB]; exact h.c7
  · intro i hi; rw [hb.frozen hB]; exact h.fr i hi
theorem VarZ.step (h : VarZ w b z) (hb : Below w.heap.size w w') : VarZ w' b z := h.below hb h.lt
theorem VarZ.alloc (h : VarZ w b z) (o : Obj) : VarZ (w.alloc o) b z := h.step ((Below.refl _ _).alloc (Nat.le_refl _) o)
/-- One cell of another variable is written. -/
theorem VarZ.other (h : VarZ w b z) (hc : b ≠ c) (i : Nat) (x : Value) : VarZ (w.setCell ⟨c, i, none⟩ x) b z := by
  have hk : ∀ (i j : Nat), (⟨c, i, none⟩ : Addr) ≠ ⟨b, j, none⟩ := fun i j e => hc (congrArg Addr.block e).symm
  constructor
  · rw [World.cell?_setCell_other _ _ _ _ (hk _ _)]; exact h.c0
  · rw [World.cell?_setCell_other _ _ _ _ (hk _ _)]; exact h.c1
  · rw [World.cell?_setCell_other _ _ _ _ (hk _ _)]; exact h.c2
  · rw [World.cell?_setCell_other _ _ _ _ (hk _ _)]; exact h.c3
  · rw [World.cell?_setCell_other _ _ _ _ (hk _ _)]; exact h.c4
  · rw [World.cell?_setCell_other _ _ _ _ (hk _ _)]; exact h.c5
  · rw [World.cell?_setCell_other _ _ _ _ (hk _ _)]; exact h.c6
  · rw [World.cell?_setCell_other _ _ _ _ (hk _ _)]; exact h.c7
  · intro i hi; rw [World.frozen?_setCell]; exact h.fr i hi
theorem VarZ.set0 (h : VarZ w b z) (n : Int) : VarZ (w.setCell ⟨b, 0, none⟩ (.int .i64 n)) b ⟨n, z.nulls, z.mn, z.mx⟩ := by
  constructor
  · rw [World.cell?_setCell_same _ _ _ h.c0]
  · rw [World.cell?_setCell_other _ _ _ _ (by simp)]; exact h.c1
  · rw [World.cell?_setCell_other _ _ _ _ (by simp)]; exact h.c2
  · rw [World.cell?_setCell_other _ _ _ _ (by simp)]; exact h.c3
  · rw [World.cell?_setCell_other _ _ _ _ (by simp)]; exact h.c4
  · rw [World.cell?_setCell_other _ _ _ _ (by simp)]; exact h.c5
  · rw [World.cell?_setCell_other _ _ _ _ (by simp)]; exact h.c6
  · rw [World.cell?_setCell_other _ _ _ _ (by simp)]; exact h.c7
  · intro i hi; rw [World.frozen?_setCell]; exact h.fr i hi
theorem VarZ.set1 (h : VarZ w b z) (n : Int) : VarZ (w.setCell ⟨b, 1, none⟩ (.int .i64 n)) b ⟨z.rows, n, z.mn, z.mx⟩ := by
  constructor
  · rw [World.cell?_setCell_other _ _ _ _ (by simp)]; exact h.c0
  · rw [World.cell?_setCell_same _ _ _ h.c1]
  · rw [World.cell?_setCell_other _ _ _ _ (by simp)]; exact h.c2
  · rw [World.cell?_setCell_other _ _ _ _ (by simp)]; exact h.c3
  · rw [World.cell?_setCell_other _ _ _ _ (by simp)]; exact h.c4
  · rw [World.cell?_setCell_other _ _ _ _ (by simp)]; exact h.c5
  · rw [World.cell?_setCell_other _ _ _ _ (by simp)]; exact h.c6
  · rw [World.cell?_setCell_other _ _ _ _ (by simp)]; exact h.c7
  · intro i hi; rw [World.frozen?_setCell]; exact h.fr i hi
theorem VarZ.setV (h : VarZ w b z) (k : Nat) (hk : k = 2 ∨ k = 5) (v : Vl) : VarZ (((w.setCell ⟨b, k, none⟩ (.bool v.nu)).setCell ⟨b, k + 1, none⟩ (.int .i64 v.n)).setCell ⟨b, k + 2, none⟩ (.string v.s)) b (if k = 2 then ⟨z.rows, z.nulls, v, z.mx⟩ else ⟨z.rows, z.nulls, z.mn, v⟩) := by
  have o : ∀ (w : World) (i j : Nat) (x y : Value), i ≠ j → w.cell? ⟨b, j, none⟩ = some y → (w.setCell ⟨b, i, none⟩ x).cell? ⟨b, j, none⟩ = some y := fun w i j x y hij hy => by
    rw [World.cell?_setCell_other _ _ _ _ (fun e => hij (congrArg Addr.off e))]; exact hy
  have s : ∀ (w : World) (i : Nat) (x y : Value), w.cell? ⟨b, i, none⟩ = some y → (w.setCell ⟨b, i, none⟩ x).cell? ⟨b, i, none⟩ = some x := fun w i x y hy => World.cell?_setCell_same _ _ _ hy
  rcases hk with rfl | rfl
  · rw [if_pos rfl]
    constructor
    · exact o _ _ _ _ _ (by decide) (o _ _ _ _ _ (by decide) (o _ _ _ _ _ (by decide) h.c0))
    · exact o _ _ _ _ _ (by decide) (o _ _ _ _ _ (by decide) (o _ _ _ _ _ (by decide) h.c1))
    · exact o _ _ _ _ _ (by decide) (o _ _ _ _ _ (by decide) (s _ _ _ _ h.c2))
    · exact o _ _ _ _ _ (by decide) (s _ _ _ _ (o _ _ _ _ _ (by decide) h.c3))
    · exact s _ _ _ _ (o _ _ _ _ _ (by decide) (o _ _ _ _ _ (by decide) h.c4))
    · exact o _ _ _ _ _ (by decide) (o _ _ _ _ _ (by decide) (o _ _ _ _ _ (by decide) h.c5))
    · exact o _ _ _ _ _ (by decide) (o _ _ _ _ _ (by decide) (o _ _ _ _ _ (by decide) h.c6))
    · exact o _ _ _ _ _ (by decide) (o _ _ _ _ _ (by decide) (o _ _ _ _ _ (by decide) h.c7))
    · intro i hi; rw [World.frozen?_setCell, World.frozen?_setCell, World.frozen?_setCell]; exact h.fr i hi
  · rw [if_neg (by decide)]
    constructor
    · exact o _ _ _ _ _ (by decide) (o _ _ _ _ _ (by decide) (o _ _ _ _ _ (by decide) h.c0))
    · exact o _ _ _ _ _ (by decide) (o _ _ _ _ _ (by decide) (o _ _ _ _ _ (by decide) h.c1))
    · exact o _ _ _ _ _ (by decide) (o _ _ _ _ _ (by decide) (o _ _ _ _ _ (by decide) h.c2))
    · exact o _ _ _ _ _ (by decide) (o _ _ _ _ _ (by decide) (o _ _ _ _ _ (by decide) h.c3))
    · exact o _ _ _ _ _ (by decide) (o _ _ _ _ _ (by decide) (o _ _ _ _ _ (by decide) h.c4))
    · exact o _ _ _ _ _ (by decide) (o _ _ _ _ _ (by decide) (s _ _ _ _ h.c5))
    · exact o _ _ _ _ _ (by decide) (s _ _ _ _ (o _ _ _ _ _ (by decide) h.c6))
    · exact s _ _ _ _ (o _ _ _ _ _ (by decide) (o _ _ _ _ _ (by decide) h.c7))
    · intro i hi; rw [World.frozen?_setCell, World.frozen?_setCell, World.frozen?_setCell]; exact h.fr i hi
theorem VarZ.setMn (h : VarZ w b z) (v : Vl) : VarZ (((w.setCell ⟨b, 2, none⟩ (.bool v.nu)).setCell ⟨b, 3, none⟩ (.int .i64 v.n)).setCell ⟨b, 4, none⟩ (.string v.s)) b ⟨z.rows, z.nulls, v, z.mx⟩ := h.setV 2 (.inl rfl) v
theorem VarZ.setMx (h : VarZ w b z) (v : Vl) : VarZ (((w.setCell ⟨b, 5, none⟩ (.bool v.nu)).setCell ⟨b, 6, none⟩ (.int .i64 v.n)).setCell ⟨b, 7, none⟩ (.string v.s)) b ⟨z.rows, z.nulls, z.mn, v⟩ := h.setV 5 (.inr rfl) v
/-- A zone stored whole. -/
def put8 (w : World) (b : Nat) (z : Zn) : World := (((((((w.setCell ⟨b, 0, none⟩ (.int .i64 z.rows)).setCell ⟨b, 1, none⟩ (.int .i64 z.nulls)).setCell ⟨b, 2, none⟩ (.bool z.mn.nu)).setCell ⟨b, 3, none⟩ (.int .i64 z.mn.n)).setCell ⟨b, 4, none⟩ (.string z.mn.s)).setCell ⟨b, 5, none⟩ (.bool z.mx.nu)).setCell ⟨b, 6, none⟩ (.int .i64 z.mx.n)).setCell ⟨b, 7, none⟩ (.string z.mx.s)
theorem VarZ.put {z' : Zn} (h : VarZ w b z') (z : Zn) : VarZ (put8 w b z) b z := ((((h.set0 z.rows).set1 z.nulls).setMn z.mn).setMx z.mx)
theorem put8_below {z : Zn} (h : Below B w0 w) (hB : B ≤ b) : Below B w0 (put8 w b z) :=
  (((((((h.setCell (p := ⟨b, 0, none⟩) hB _).setCell (p := ⟨b, 1, none⟩) hB _).setCell (p := ⟨b, 2, none⟩) hB _).setCell (p := ⟨b, 3, none⟩) hB _).setCell (p := ⟨b, 4, none⟩) hB _).setCell (p := ⟨b, 5, none⟩) hB _).setCell (p := ⟨b, 6, none⟩) hB _).setCell (p := ⟨b, 7, none⟩) hB _
theorem set3V_below {k : Nat} (h : Below B w0 w) (hB : B ≤ b) : Below B w0 (((w.setCell ⟨b, k, none⟩ x).setCell ⟨b, k + 1, none⟩ y).setCell ⟨b, k + 2, none⟩ u) :=
  ((h.setCell (p := ⟨b, k, none⟩) hB x).setCell (p := ⟨b, k + 1, none⟩) hB y).setCell (p := ⟨b, k + 2, none⟩) hB u
end
end Go.ZN
