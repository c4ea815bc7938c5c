/- Several texts in one: BitW6 BitW7. -/
import Derived.Test.YtbolbbngncnecaaG2
import Derived.StillTailTactics
import Derived.Test.YtbolbbngncnecaaG0
/- The walks over Unpack of the reference, over Same, and over the lists of numbers of the statements. -/
namespace Go.Proofs.Ytbolbbngncnecaa
open Go.RowKit Go.VB Go.VarM Go.BP
theorem meas_up {a b : Nat} (h : a < b) : b - (intOf (.int .i64 ((a : Int) + 1))).toNat < b - (intOf (.int .i64 (a : Int))).toNat := by simp only [intOf]; omega
theorem wrap64_nat {q : Nat} (h : q ≤ 1000000) : wrap64 (q : Int) = q := by unfold wrap64; omega
theorem wrapi_nat {q : Nat} (h : q ≤ 1000000) : IntKind.i64.wrap (q : Int) = q := IntWalk.i64_in _ ⟨by omega, by omega⟩
theorem wrapu_nat {q : Nat} (h : q ≤ 1000000) : IntKind.u64.wrap (q : Int) = q := IntWalk.u64_in _ ⟨by omega, by omega⟩
end Go.Proofs.Ytbolbbngncnecaa

/- The lists of numbers of the statements of layer 2, and what each of them asks first. -/
namespace Go.Proofs.Ytbolbbngncnecaa
open Go.RowKit Go.VB Go.VarM Go.BP
theorem bpack_eq (vl : Value) (l : List Nat) (k : Int) (B : Nat) (w : World) (hr : RdN .u64 w B vl l) (hB : B ≤ w.heap.size) (hl : ∀ x ∈ l, x < 2 ^ 64) {s : ByteArray} {c : Nat} (h : packR l k = (s, c)) :
    Calls Try.prog 106 #[vl, .int .i64 k] w (RetSE s c w) := by
  have := bpack_any vl l k B w hr hB hl
  rw [h] at this; exact this
theorem rpack_eq (vl : Value) (l : List Nat) (k : Int) (B : Nat) (w : World) (hr : RdN .u64 w B vl l) (hB : B ≤ w.heap.size) (hl : ∀ x ∈ l, x < 2 ^ 64) {s : ByteArray} {c : Nat} (h : packR l k = (s, c)) :
    Calls Try.prog 82 #[vl, .int .i64 k] w (RetSE s c w) := by
  have := rpack_any vl l k B w hr hB hl
  rw [h] at this; exact this
theorem bunpack_eq (s : ByteArray) (n k : Int) (w : World) {l : List Nat} {c : Nat} (h : unpackR s n k = (l, c)) :
    Calls Try.prog 96 #[.string s, .int .i64 n, .int .i64 k] w (RetNE .u64 68 l c w) := by
  have := bunpack_any s n k w
  rw [h] at this; exact this
theorem bwidth_int (x : Int) (w : World) (h0 : 0 ≤ x) (h1 : x ≤ 18446744073709551615) : Calls Try.prog 108 #[.int .u64 x] w (Ret (.int .i64 (wid x.toNat : Nat)) w) := by
  obtain ⟨n, rfl⟩ := Int.eq_ofNat_of_zero_le h0
  exact bwidth_any n w (by omega)
theorem rwidth_int (x : Int) (w : World) (h0 : 0 ≤ x) (h1 : x ≤ 18446744073709551615) : Calls Try.prog 83 #[.int .u64 x] w (Ret (.int .i64 (wid x.toNat : Nat)) w) := by
  obtain ⟨n, rfl⟩ := Int.eq_ofNat_of_zero_le h0
  exact rwidth_any n w (by omega)
end Go.Proofs.Ytbolbbngncnecaa
