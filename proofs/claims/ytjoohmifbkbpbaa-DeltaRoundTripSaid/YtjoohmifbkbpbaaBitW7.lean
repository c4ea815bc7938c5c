/- The lists of numbers of the statements of layer 2, and what each of them asks first. -/
import Derived.Test.YtjoohmifbkbpbaaBitW6
import Derived.Test.YtjoohmifbkbpbaaArgs
namespace Go.Proofs.Ytjoohmifbkbpbaa
open Go.RowKit Go.VB Go.VarM Go.BP
theorem bpack_eq (vl : Value) (l : List Nat) (k : Int) (B : Nat) (w : World) (hr : RdN .u64 w B vl l) (hB : B ≤ w.heap.size) (hl : ∀ x ∈ l, x < 2 ^ 64) {s : ByteArray} {c : Nat} (h : packR l k = (s, c)) :
    Calls Try.prog 36 #[vl, .int .i64 k] w (RetSE s c w) := by
  have := bpack_any vl l k B w hr hB hl
  rw [h] at this; exact this
theorem rpack_eq (vl : Value) (l : List Nat) (k : Int) (B : Nat) (w : World) (hr : RdN .u64 w B vl l) (hB : B ≤ w.heap.size) (hl : ∀ x ∈ l, x < 2 ^ 64) {s : ByteArray} {c : Nat} (h : packR l k = (s, c)) :
    Calls Try.prog 27 #[vl, .int .i64 k] w (RetSE s c w) := by
  have := rpack_any vl l k B w hr hB hl
  rw [h] at this; exact this
theorem bunpack_eq (s : ByteArray) (n k : Int) (w : World) {l : List Nat} {c : Nat} (h : unpackR s n k = (l, c)) :
    Calls Try.prog 45 #[.string s, .int .i64 n, .int .i64 k] w (RetNE .u64 44 l c w) := by
  have := bunpack_any s n k w
  rw [h] at this; exact this
theorem runpack_eq (s : ByteArray) (n k : Int) (w : World) {l : List Nat} {c : Nat} (h : unpackR s n k = (l, c)) :
    Calls Try.prog 41 #[.string s, .int .i64 n, .int .i64 k] w (RetNE .u64 44 l c w) := by
  have := runpack_any s n k w
  rw [h] at this; exact this
theorem bwidth_int (x : Int) (w : World) (h0 : 0 ≤ x) (h1 : x ≤ 18446744073709551615) : Calls Try.prog 35 #[.int .u64 x] w (Ret (.int .i64 (wid x.toNat : Nat)) w) := by
  obtain ⟨n, rfl⟩ := Int.eq_ofNat_of_zero_le h0
  exact bwidth_any n w (by omega)
theorem rwidth_int (x : Int) (w : World) (h0 : 0 ≤ x) (h1 : x ≤ 18446744073709551615) : Calls Try.prog 26 #[.int .u64 x] w (Ret (.int .i64 (wid x.toNat : Nat)) w) := by
  obtain ⟨n, rfl⟩ := Int.eq_ofNat_of_zero_le h0
  exact rwidth_any n w (by omega)
end Go.Proofs.Ytjoohmifbkbpbaa
