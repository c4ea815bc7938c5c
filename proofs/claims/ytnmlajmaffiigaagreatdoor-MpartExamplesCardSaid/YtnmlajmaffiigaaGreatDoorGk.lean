/- keep's Source once more: what is written between the choices, told by blocks; for keep's value, called again and again. -/
import Derived.Test.YtnmlajmaffiigaaGreatDoorGw
import Derived.Test.YtnmlajmaffiigaaGreatDoorGm
import Derived.Deep.RegionWith
import Derived.BigQuiet
import Derived.Test.YtnmlajmaffiigaaGreatDoorGl
namespace Go.KV
open Go.RowKit Go.VB
/-- What was there is as it was, but for block g. -/
structure GB (g : Nat) (w w' : World) : Prop where
  os : w'.os = w.os
  tape : w'.tape = w.tape
  output : w'.output = w.output
  size : w.heap.size ≤ w'.heap.size
  block : ∀ k, k < w.heap.size → k ≠ g → w'.heap[k]? = w.heap[k]?
theorem GB.refl (g : Nat) (w : World) : GB g w w := ⟨rfl, rfl, rfl, Nat.le_refl _, fun _ _ _ => rfl⟩
theorem GB.of {g B : Nat} {a b c : World} (h : GB g a b) (hb : Below B b c) (hB : a.heap.size ≤ B) : GB g a c :=
  ⟨hb.os.trans h.os, hb.tape.trans h.tape, hb.output.trans h.output, Nat.le_trans h.size hb.size, fun k hk hg => (hb.block k (by omega)).trans (h.block k hk hg)⟩
theorem GB.alloc {g : Nat} {a b : World} (h : GB g a b) (o : Obj) : GB g a (b.alloc o) := h.of ((Below.refl b.heap.size b).alloc (Nat.le_refl _) o) h.size
theorem GB.set {g : Nat} {a b : World} (h : GB g a b) (i : Nat) (x : Value) : GB g a (b.setCell ⟨g, i, none⟩ x) :=
  ⟨h.os, h.tape, h.output, by rw [World.size_setCell]; exact h.size, fun k hk hg => (Below.heap_setCell _ _ _ _ hg).trans (h.block k hk hg)⟩
theorem GB.below {g B : Nat} {a b w0 : World} (h : GB g a b) (h0 : Below B w0 a) (hB : B ≤ g) (ha : B ≤ a.heap.size) : Below B w0 b :=
  ⟨h.os.trans h0.os, h.tape.trans h0.tape, h.output.trans h0.output, Nat.le_trans h0.size h.size, fun k hk => (h.block k (by omega) (by omega)).trans (h0.block k hk)⟩
/-- The world w is w0 but for what is new and for the source; the source lies in block g and gives the numbers zl, which lie in the slice v. -/
structure Src (w0 w : World) (B g : Nat) (v : Value) (zl : List Int) : Prop where
  gb : GB g w0 w
  base : B ≤ g
  lt0 : g < w0.heap.size
  c0 : w.cell? ⟨g, 0, none⟩ = some v
  c1 : ∃ i : Nat, w.cell? ⟨g, 1, none⟩ = some (.int .i64 (i : Int)) ∧ i ≤ zl.length
  fr : w.frozen? ⟨g, 1, none⟩ = false
  rd : RdI .i64 w0 B v zl
  wf : ∀ z ∈ zl, (Lit.int .i64 z).wf = true
section
variable {w0 w : World} {B g : Nat} {v : Value} {zl : List Int}
theorem Src.below (h : Src w0 w B g v zl) : Below B w0 w := h.gb.below (Below.refl _ _) h.base (by have := h.base; have := h.lt0; omega)
theorem Src.lt (h : Src w0 w B g v zl) : g < w.heap.size := Nat.lt_of_lt_of_le h.lt0 h.gb.size
theorem Src.alloc (h : Src w0 w B g v zl) (_hB : B ≤ w.heap.size) (o : Obj) : Src w0 (w.alloc o) B g v zl :=
  ⟨h.gb.alloc o, h.base, h.lt0, (World.cell?_alloc_past o g 0 h.lt).trans h.c0,
    let ⟨i, e, hi⟩ := h.c1; ⟨i, (World.cell?_alloc_past o g 1 h.lt).trans e, hi⟩, (World.frozen?_alloc_past o g 1 h.lt).trans h.fr, h.rd, h.wf⟩
theorem Src.set (h : Src w0 w B g v zl) (i : Nat) (hi : i ≤ zl.length) : Src w0 (w.setCell ⟨g, 1, none⟩ (.int .i64 (i : Int))) B g v zl :=
  ⟨h.gb.set _ _, h.base, h.lt0, (World.cell?_setCell_other _ _ _ _ (by simp)).trans h.c0,
    let ⟨_, e, _⟩ := h.c1; ⟨i, World.cell?_setCell_same _ _ _ e, hi⟩, (World.frozen?_setCell _ _ _ _).trans h.fr, h.rd, h.wf⟩
theorem Src.size (h : Src w0 w B g v zl) : B ≤ w.heap.size := by have := h.base; have := h.lt; omega
theorem Src.of {B' : Nat} {w' : World} (h : Src w0 w B g v zl) (hb : Below B' w w') (hg : g < B') (hw : w0.heap.size ≤ B') : Src w0 w' B g v zl :=
  have f2 : w'.frozen? ⟨g, 1, none⟩ = w.frozen? ⟨g, 1, none⟩ := World.frozen?_of_block (hb.block g hg)
  ⟨h.gb.of hb hw, h.base, h.lt0, (hb.cell (p := ⟨g, 0, none⟩) hg).trans h.c0, let ⟨i, e, hi⟩ := h.c1; ⟨i, (hb.cell (p := ⟨g, 1, none⟩) hg).trans e, hi⟩, f2.trans h.fr, h.rd, h.wf⟩
end
end Go.KV
namespace Go.Proofs.YtnmlajmaffiigaaGreatDoor
open Go.RowKit Go.VB Go.KV
end Go.Proofs.YtnmlajmaffiigaaGreatDoor

namespace Go.KV
open Go.RowKit Go.VB Go.VL
end Go.KV
namespace Go.Proofs.YtnmlajmaffiigaaGreatDoor
open Go.RowKit Go.VB Go.VL Go.KV
end Go.Proofs.YtnmlajmaffiigaaGreatDoor

namespace Go.CK
open Go.RowKit Go.VB Go.VS Go.VL Go.KV Go.Proofs.YtnmlajmaffiigaaGreatDoor
end Go.CK
namespace Go.Proofs.YtnmlajmaffiigaaGreatDoor
open Go.RowKit Go.VB Go.VS Go.VL Go.CK Go.KV
end Go.Proofs.YtnmlajmaffiigaaGreatDoor
