/- The lists of numbers of the statements of layer 2, and what each of them asks first. -/
import Derived.Test.YtikokmafofbofaaBitW6
import Derived.Test.YtikokmafofbofaaArgs
namespace Go.Proofs.Ytikokmafofbofaa
open Go.RowKit Go.VB Go.VarM Go.BP
theorem bpack_eq (vl : Value) (l : List Nat) (k : Int) (B : Nat) (w : World) (hr : RdN .u64 w B vl l) (hB : B ≤ w.heap.size) (hl : ∀ x ∈ l, x < 2 ^ 64) {s : ByteArray} {c : Nat} (h : packR l k = (s, c)) :
    Calls Try.prog 38 #[vl, .int .i64 k] w (RetSE s c w) := by
  have := bpack_any vl l k B w hr hB hl
  rw [h] at this; exact this
theorem rpack_eq (vl : Value) (l : List Nat) (k : Int) (B : Nat) (w : World) (hr : RdN .u64 w B vl l) (hB : B ≤ w.heap.size) (hl : ∀ x ∈ l, x < 2 ^ 64) {s : ByteArray} {c : Nat} (h : packR l k = (s, c)) :
    Calls Try.prog 29 #[vl, .int .i64 k] w (RetSE s c w) := by
  have := rpack_any vl l k B w hr hB hl
  rw [h] at this; exact this
theorem bunpack_eq (s : ByteArray) (n k : Int) (w : World) {l : List Nat} {c : Nat} (h : unpackR s n k = (l, c)) :
    Calls Try.prog 34 #[.string s, .int .i64 n, .int .i64 k] w (RetNE .u64 46 l c w) := by
  have := bunpack_any s n k w
  rw [h] at this; exact this
theorem runpack_eq (s : ByteArray) (n k : Int) (w : World) {l : List Nat} {c : Nat} (h : unpackR s n k = (l, c)) :
    Calls Try.prog 42 #[.string s, .int .i64 n, .int .i64 k] w (RetNE .u64 46 l c w) := by
  have := runpack_any s n k w
  rw [h] at this; exact this
theorem bwidth_int (x : Int) (w : World) (h0 : 0 ≤ x) (h1 : x ≤ 18446744073709551615) : Calls Try.prog 51 #[.int .u64 x] w (Ret (.int .i64 (wid x.toNat : Nat)) w) := by
  obtain ⟨n, rfl⟩ := Int.eq_ofNat_of_zero_le h0
  exact bwidth_any n w (by omega)
theorem rwidth_int (x : Int) (w : World) (h0 : 0 ≤ x) (h1 : x ≤ 18446744073709551615) : Calls Try.prog 30 #[.int .u64 x] w (Ret (.int .i64 (wid x.toNat : Nat)) w) := by
  obtain ⟨n, rfl⟩ := Int.eq_ofNat_of_zero_le h0
  exact rwidth_any n w (by omega)
end Go.Proofs.Ytikokmafofbofaa
