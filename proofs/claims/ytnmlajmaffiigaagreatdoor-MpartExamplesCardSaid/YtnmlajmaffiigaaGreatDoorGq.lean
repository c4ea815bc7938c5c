/- The walks over package rle: one run read, Decode. -/
import Derived.Test.YtnmlajmaffiigaaGreatDoorGr
import Derived.Test.YtnmlajmaffiigaaGreatDoorGm
import Derived.Deep.RegionWith
import Derived.BigQuiet
namespace Go.RL
open Go.RowKit Go.VB Go.VarM
end Go.RL
namespace Go.Proofs.YtnmlajmaffiigaaGreatDoor
open Go.RowKit Go.VB Go.VarM Go.RL
theorem Tryz.infI64 : (Tryz.prog.info? 2).map (fun i => (i.zero, i.size, i.bytes)) = some (some (.int .i64 0), 1, 8) := by kernel_rfl
theorem run_make0 {P : Program} {t e : TypeId} {bytes : Nat} {z : Value} (hz1 : z.cells = #[z]) (ht : P.underlying t = some (.slice e)) (hinfo : (P.info? e).map (fun i => (i.zero, i.size, i.bytes)) = some (some z, 1, bytes))
    (n : Nat) (hb : bytes * n ≤ 281474976710656) (hm : n ≤ maxLen) (w : World) :
    (Instr.makeSlice t (.int .i64 0) (.int .i64 (n : Int))).run P w = .ok (.slice (some ⟨w.heap.size, 0, none⟩) 0 n) (w.alloc (.cells (madeCells #[z] n) e)) := by
  obtain ⟨i, hi, hz, hsz, hby⟩ := info_parts hinfo
  unfold maxLen at hm
  have h := run_make (P := P) w t e i z ht hi hz .i64 .i64 0 n (by omega) (by omega) (by rw [hby, ← Int.natCast_mul]; omega) (by omega)
  rw [Int.toNat_natCast, hsz, Nat.mul_one, hz1] at h
  exact h
section
variable (s : ByteArray) (p : Int) (m : Nat) (w : World) (hs : s.size ≤ maxLen)
include hs
end
end Go.Proofs.YtnmlajmaffiigaaGreatDoor

namespace Go.Proofs.YtnmlajmaffiigaaGreatDoor
open Go.RowKit Go.VB Go.VarM Go.RL
end Go.Proofs.YtnmlajmaffiigaaGreatDoor

namespace Go.Proofs.YtnmlajmaffiigaaGreatDoor
open Go.RowKit Go.VB Go.VarM Go.RL
end Go.Proofs.YtnmlajmaffiigaaGreatDoor

namespace Go.KS
open Go.RowKit Go.VB
/-- The world is as it was but for block g. -/
structure But (g : Nat) (w w' : World) : Prop where
  os : w'.os = w.os
  tape : w'.tape = w.tape
  output : w'.output = w.output
  size : w'.heap.size = w.heap.size
  block : ∀ k, k ≠ g → w'.heap[k]? = w.heap[k]?
theorem But.refl (g : Nat) (w : World) : But g w w := ⟨rfl, rfl, rfl, rfl, fun _ _ => rfl⟩
theorem But.set {g : Nat} {a b : World} (h : But g a b) (i : Nat) (x : Value) : But g a (b.setCell ⟨g, i, none⟩ x) :=
  ⟨h.os, h.tape, h.output, (World.size_setCell _ _ _).trans h.size, fun k hk => (Below.heap_setCell _ _ _ _ hk).trans (h.block k hk)⟩
theorem But.below {g B : Nat} {a b w0 : World} (h : But g a b) (h0 : Below B w0 a) (hB : B ≤ g) : Below B w0 b :=
  ⟨h.os.trans h0.os, h.tape.trans h0.tape, h.output.trans h0.output, by rw [h.size]; exact h0.size, fun k hk => (h.block k (by omega)).trans (h0.block k hk)⟩
theorem But.own {α : Type} {f : α → Value} {g : Nat} {a c : World} {e : TypeId} {base : Nat} {v : Value} {l : List α} (h : But g a c) (hv : OwnV f e a base v l) (hb : g < base) : OwnV f e c base v l := by
  refine World.ownsRow.kept (row := some g) hv ⟨h.os, h.tape, h.output, by rw [h.size]; exact Nat.le_refl _, fun k _ hk => h.block k (fun e => hk (by rw [e]))⟩ (.inr fun e => ?_)
  have := (OwnV.lt hv g e).1
  omega
/-- A source in block g. -/
structure Sr (w : World) (g : Nat) (v : Value) (zl : List Int) : Prop where
  lt : g < w.heap.size
  c0 : w.cell? ⟨g, 0, none⟩ = some v
  c1 : ∃ i : Nat, w.cell? ⟨g, 1, none⟩ = some (.int .i64 (i : Int)) ∧ i ≤ zl.length
  fr : w.frozen? ⟨g, 1, none⟩ = false
  rd : RdI .i64 w g v zl
  wf : ∀ z ∈ zl, (Lit.int .i64 z).wf = true
theorem Sr.below {w w' : World} {g B : Nat} {v : Value} {zl : List Int} (h : Sr w g v zl) (hb : Below B w w') (hg : g < B) : Sr w' g v zl :=
  have f2 : w'.frozen? ⟨g, 1, none⟩ = w.frozen? ⟨g, 1, none⟩ := World.frozen?_of_block (hb.block g hg)
  ⟨Nat.lt_of_lt_of_le h.lt hb.size, (hb.cell (p := ⟨g, 0, none⟩) hg).trans h.c0, let ⟨i, e, hi⟩ := h.c1; ⟨i, (hb.cell (p := ⟨g, 1, none⟩) hg).trans e, hi⟩, f2.trans h.fr, h.rd.below (hb.mono (by omega)), h.wf⟩
theorem Sr.set {w : World} {g : Nat} {v : Value} {zl : List Int} (h : Sr w g v zl) (i : Nat) (hi : i ≤ zl.length) : Sr (w.setCell ⟨g, 1, none⟩ (.int .i64 (i : Int))) g v zl := by
  obtain ⟨j, hj, _⟩ := h.c1
  refine ⟨by rw [World.size_setCell]; exact h.lt, ?_, ⟨i, World.cell?_setCell_same _ _ _ hj, hi⟩, ?_, ?_, h.wf⟩
  · rw [World.cell?_setCell_other _ _ _ _ (by simp)]; exact h.c0
  · rw [World.frozen?_setCell]; exact h.fr
  · exact h.rd.below ((But.refl g w).set 1 (.int .i64 (i : Int)) |>.below (Below.refl _ _) (Nat.le_refl _))
/-- A choice that meets p: the world is as it was but for the source. -/
def ChP (p : Int → Prop) (w : World) (g : Nat) (v : Value) (zl : List Int) : Ending → World → Prop := fun e w' => ∃ r : Int, e = .returned (.int .i64 r) ∧ p r ∧ Sr w' g v zl ∧ But g w w'
end Go.KS
namespace Go.Proofs.YtnmlajmaffiigaaGreatDoor
open Go.RowKit Go.VB Go.KS
end Go.Proofs.YtnmlajmaffiigaaGreatDoor

namespace Go.RL
open Go.RowKit Go.VB
end Go.RL
namespace Go.Proofs.YtnmlajmaffiigaaGreatDoor
open Go.RowKit Go.VB Go.VarM Go.RL Go.KS
end Go.Proofs.YtnmlajmaffiigaaGreatDoor
