/- The walks over Unpack of the reference, over Same, and over the lists of numbers of the statements. -/
import Derived.Test.YtnmlajmaffiigaaGreatDoorGn
import Derived.StillTailTactics
import Derived.Test.YtnmlajmaffiigaaGreatDoorGa
namespace Go.Proofs.YtnmlajmaffiigaaGreatDoor
open Go.RowKit Go.VB Go.VarM Go.BP
end Go.Proofs.YtnmlajmaffiigaaGreatDoor

namespace Go.Proofs.YtnmlajmaffiigaaGreatDoor
open Go.RowKit Go.VB Go.VarM Go.BP
theorem bpack_eq (vl : Value) (l : List Nat) (k : Int) (B : Nat) (w : World) (hr : RdN .u64 w B vl l) (hB : B ≤ w.heap.size) (hl : ∀ x ∈ l, x < 2 ^ 64) {s : ByteArray} {c : Nat} (h : packR l k = (s, c)) :
    Calls Tryz.prog 253 #[vl, .int .i64 k] w (RetSE s c w) := by
  have := bpack_any vl l k B w hr hB hl
  rw [h] at this; exact this
end Go.Proofs.YtnmlajmaffiigaaGreatDoor
