/- The walk over the reference's reading of a day's text. -/
import Derived.Test.YtidlemedkjkmdaaDoorDateW5
namespace Go.DT
open Go.VB
theorem nm_bd {s : ByteArray} {j i n : Nat} (hf : ∀ k, k < j → fits s k) (hz : 10 ≤ s.size) (hj : j ≤ 10) (h : i + n ≤ j) (hn : n ≤ 4) (hp : i + n ≤ 4 ∨ (5 ≤ i ∧ i + n ≤ 7) ∨ 8 ≤ i) : nm s i n ≤ 9999 := by
  have h1 := nm_lt s i n (by omega) fun k hk => (fits_dig (hf (i + k) (by omega)) (by omega) (by omega)).2
  have h2 := Nat.pow_le_pow_right (n := 10) (by decide) hn
  omega
/-- The numbers that are read when j bytes have been read. -/
def vs (s : ByteArray) (j : Nat) : List Nat := [nm s 0 (min j 4), nm s 5 (min (j - 5) 2), nm s 8 (min (j - 8) 2)]
/-- The number that is being read. -/
def whichN (j : Nat) : Nat := if j ≤ 4 then 0 else if j ≤ 7 then 1 else 2
end Go.DT
namespace Go.Proofs.YtidlemedkjkmdaaDoor
open Go.RowKit Go.VB Go.DT
theorem made3 (v : Value) : madeCells #[v] 3 = #[v, v, v] := by
  apply Array.toList_inj.1
  rw [toList_madeCells_one]; rfl
end Go.Proofs.YtidlemedkjkmdaaDoor
