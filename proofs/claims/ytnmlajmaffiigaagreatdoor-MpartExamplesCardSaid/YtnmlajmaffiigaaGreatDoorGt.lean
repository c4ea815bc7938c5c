/- Appending a column to a slice of the call's own; a slice of columns as data. -/
import Derived.Test.YtnmlajmaffiigaaGreatDoorGs
import Derived.Laws.AppendOwnNone
import Derived.Test.YtnmlajmaffiigaaGreatDoorGy
import Derived.Deep.RegionWith
import Derived.Deep.CutRange
namespace Go.SC
open Go.RowKit Go.VB Go.VL
end Go.SC
namespace Go.Proofs.YtnmlajmaffiigaaGreatDoor
open Go.RowKit Go.VB Go.VL Go.SC
end Go.Proofs.YtnmlajmaffiigaaGreatDoor

namespace Go.SC
open Go.RowKit Go.VB Go.VL
/-- The world is as it was but for block g. -/
structure But (g : Nat) (w w' : World) : Prop where
  os : w'.os = w.os
  tape : w'.tape = w.tape
  output : w'.output = w.output
  size : w'.heap.size = w.heap.size
  block : ∀ k, k ≠ g → w'.heap[k]? = w.heap[k]?
theorem But.refl (g : Nat) (w : World) : But g w w := ⟨rfl, rfl, rfl, rfl, fun _ _ => rfl⟩
theorem But.set {g : Nat} {a b : World} (h : But g a b) (i : Nat) (x : Value) : But g a (b.setCell ⟨g, i, none⟩ x) :=
  ⟨h.os, h.tape, h.output, (World.size_setCell _ _ _).trans h.size, fun k hk => (Below.heap_setCell _ _ _ _ hk).trans (h.block k hk)⟩
theorem But.below {g B : Nat} {a b w0 : World} (h : But g a b) (h0 : Below B w0 a) (hB : B ≤ g) : Below B w0 b :=
  ⟨h.os.trans h0.os, h.tape.trans h0.tape, h.output.trans h0.output, by rw [h.size]; exact h0.size, fun k hk => (h.block k (by omega)).trans (h0.block k hk)⟩
theorem But.cell {g : Nat} {a b : World} (h : But g a b) {p : Addr} (hp : p.block ≠ g) : b.cell? p = a.cell? p := World.cell?_of_block (h.block _ hp)
theorem But.frozen {g : Nat} {a b : World} (h : But g a b) {p : Addr} (hp : p.block ≠ g) : b.frozen? p = a.frozen? p := World.frozen?_of_block (h.block _ hp)
theorem But.own {g : Nat} {a c : World} {e : TypeId} {base : Nat} {v : Value} {cs : List Col} (h : But g a c) (hv : OwnC e a base v cs) (hb : g < base) : OwnC e c base v cs := by
  refine World.ownsRow.kept (row := some g) hv ⟨h.os, h.tape, h.output, by rw [h.size]; exact Nat.le_refl _, fun k _ hk => h.block k (fun e => hk (by rw [e]))⟩ (.inr fun e => ?_)
  have := (OwnC.lt hv g e).1
  omega
/-- Grown, but for block g. -/
def GB (g : Nat) (a b : World) : Prop := a.grownBy b (some g)
theorem GB.but {g : Nat} {a b c : World} (h : GB g a b) (k : But g b c) : GB g a c :=
  ⟨k.os.trans h.os, k.tape.trans h.tape, k.output.trans h.output, by rw [k.size]; exact h.size, fun i hi hne => (k.block i (fun e => hne (by rw [e]))).trans (h.block i hi hne)⟩
theorem GB.alloc {g : Nat} {a b : World} (h : GB g a b) (o : Obj) : GB g a (b.alloc o) :=
  have k := (Below.refl b.heap.size b).alloc (Nat.le_refl _) o
  ⟨k.os.trans h.os, k.tape.trans h.tape, k.output.trans h.output, Nat.le_trans h.size k.size, fun i hi hne => (k.block i (Nat.lt_of_lt_of_le hi h.size)).trans (h.block i hi hne)⟩
theorem GB.set {g : Nat} {a b : World} (h : GB g a b) {p : Addr} (hp : a.heap.size ≤ p.block) (x : Value) : GB g a (b.setCell p x) :=
  ⟨h.os, h.tape, h.output, by rw [World.size_setCell]; exact h.size, fun i hi hne => (Below.heap_setCell _ _ _ _ (by omega)).trans (h.block i hi hne)⟩
theorem GB.own {g : Nat} {a c : World} {e : TypeId} {base : Nat} {v : Value} {cs : List Col} (h : GB g a c) (hv : OwnC e a base v cs) (hb : g < base) : OwnC e c base v cs :=
  World.ownsRow.kept (row := some g) hv h (.inr fun e => by have := (OwnC.lt hv g e).1; omega)
theorem GB.below {g B : Nat} {a b w0 : World} (h : GB g a b) (h0 : Below B w0 a) (hB : B ≤ g) (hs : B ≤ a.heap.size) : Below B w0 b :=
  ⟨h.os.trans h0.os, h.tape.trans h0.tape, h.output.trans h0.output, Nat.le_trans h0.size h.size, fun k hk => (h.block k (by omega) (fun e => by cases e; omega)).trans (h0.block k hk)⟩
/-- A source in block g. -/
def Sr (w : World) (g : Nat) (v : Value) (zl : List Int) : Prop := Src w w g g v zl
theorem Sr.but {w w' : World} {g c : Nat} {v : Value} {zl : List Int} (h : Sr w g v zl) (hb : But c w w') (hc : g < c) : Sr w' g v zl :=
  ⟨Below.refl _ _, Nat.le_refl _, by rw [hb.size]; exact h.lt, (hb.cell (by show g ≠ c; omega)).trans h.c0, let ⟨i, e, hi⟩ := h.c1; ⟨i, (hb.cell (by show g ≠ c; omega)).trans e, hi⟩,
    (hb.frozen (by show g ≠ c; omega)).trans h.fr, h.rd.below (hb.below (Below.refl _ _) (by omega)), h.wf⟩
theorem Sr.below {w w' : World} {g B : Nat} {v : Value} {zl : List Int} (h : Sr w g v zl) (hb : Below B w w') (hg : g < B) : Sr w' g v zl :=
  ⟨Below.refl _ _, Nat.le_refl _, Nat.lt_of_lt_of_le h.lt hb.size, (hb.cell hg).trans h.c0, let ⟨i, e, hi⟩ := h.c1; ⟨i, (hb.cell hg).trans e, hi⟩, (hb.frozen hg).trans h.fr, h.rd.below (hb.mono (by omega)), h.wf⟩
/-- The columns that keep's Schema has made, of N. -/
def KAt (N : Nat) (cs : List Col) : Prop := ∀ i, i < cs.length → (cs.getD i col0).nm = str [UInt8.ofNat (97 + (N - 1 - i))] ∧ okT (cs.getD i col0).ty = true ∧ 0 ≤ (cs.getD i col0).sc ∧ (cs.getD i col0).sc ≤ 3 ∧ ((cs.getD i col0).ty ≠ 5 → (cs.getD i col0).sc = 0)
/-- What keep's Schema leaves. -/
def KOK (cs : List Col) (key : Int) : Prop := 1 ≤ cs.length ∧ cs.length ≤ 4 ∧ KAt cs.length cs ∧ 0 ≤ key ∧ key < cs.length
theorem Sr.set {w : World} {g : Nat} {v : Value} {zl : List Int} (h : Sr w g v zl) (i : Nat) (hi : i ≤ zl.length) : Sr (w.setCell ⟨g, 1, none⟩ (.int .i64 (i : Int))) g v zl := by
  have h2 := Src.set h i hi
  exact ⟨Below.refl _ _, h2.base, h2.lt, h2.c0, h2.c1, h2.fr, h2.rd.below h2.below, h2.wf⟩
/-- It returns v in the world w'. -/
def RetG (v : Value) (w' : World) : Ending → World → Prop := fun e w'' => e = .returned v ∧ w'' = w'
end Go.SC
namespace Go.Proofs.YtnmlajmaffiigaaGreatDoor
open Go.RowKit Go.VB Go.VL Go.SC
set_option linter.constructorNameAsVariable false
end Go.Proofs.YtnmlajmaffiigaaGreatDoor
