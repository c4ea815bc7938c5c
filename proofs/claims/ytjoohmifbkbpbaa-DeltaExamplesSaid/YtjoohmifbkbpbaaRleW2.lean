/- The walks over package rle and its reference: counting runs, Encode. -/
import Derived.Test.YtjoohmifbkbpbaaRleW1
namespace Go.Proofs.Ytjoohmifbkbpbaa
open Go.RowKit Go.VB Go.VarM Go.RL
theorem zig_nat {x : Int} (h : -9223372036854775808 ≤ x ∧ x ≤ 9223372036854775807) : ∃ z : Nat, zigN x = z ∧ (zigN x).toNat = z ∧ z < 18446744073709551616 :=
  ⟨(zigN x).toNat, by rw [Int.toNat_of_nonneg (zig_bd h.1 h.2).1], rfl, zig_lt h⟩
theorem drop0 {l : List Int} {i : Nat} (h : i < l.length) : (l.drop i)[0]? = some l[i] := by
  rw [List.getElem?_drop, Nat.add_zero, List.getElem?_eq_getElem h]
end Go.Proofs.Ytjoohmifbkbpbaa
