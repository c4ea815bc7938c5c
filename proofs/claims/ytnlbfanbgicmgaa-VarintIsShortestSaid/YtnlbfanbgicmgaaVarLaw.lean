/- The statements of layer 1, each out of the contracts. -/
import Derived.Test.YtnlbfanbgicmgaaVarRef
namespace Go.Proofs.Ytnlbfanbgicmgaa
open Go.RowKit Go.VB Go.VarM Go.ChangeShapes Go.WideShapes Go.ChangeAt
open Go.ChangeMaps (open_string)

theorem Try.own : ownKnob Try.prog.godebug = none := by kernel_rfl
theorem Try.laidOut : laidOutB Try.prog = true := by kernel_rfl


/-- A shift to the right by less than 64. -/
theorem shr_bd (v : Int) (h0 : 0 ≤ v) (h1 : v ≤ 18446744073709551615) (k : Nat) : 0 ≤ v / 2 ^ k ∧ v / 2 ^ k ≤ 18446744073709551615 := by
  have hp : (0 : Int) < 2 ^ k := Int.pow_pos (by decide)
  exact ⟨Int.ediv_nonneg h0 (Int.le_of_lt hp), Int.le_trans (Int.ediv_le_self _ h0) h1⟩

/-! The contracts as the walks of the statements offer them: an argument is any number in its range. -/
theorem vput_int (x : Int) (w : World) (h0 : 0 ≤ x) (h1 : x ≤ 18446744073709551615) : Calls Try.prog 13 #[.int .u64 x] w (RetB (.string (str (putL x.toNat))) w) := by
  obtain ⟨n, rfl⟩ := Int.eq_ofNat_of_zero_le h0
  exact vput_any n w (by omega)
theorem vget_tup (s : ByteArray) (i : Int) (w : World) (hs : s.size ≤ maxLen) :
    Calls Try.prog 11 #[.string s, .int .i64 i] w (Ret (.tuple #[.int .u64 ((getR s i).1 : Nat), .int .i64 (getR s i).2.1, .int .i64 ((getR s i).2.2 : Nat)]) w) := vget_any s i w hs
theorem vget_eq (s : ByteArray) (i : Int) (w : World) (hs : s.size ≤ maxLen) {a : Nat} {b : Int} {c : Nat} (h : getR s i = (a, b, c)) :
    Calls Try.prog 11 #[.string s, .int .i64 i] w (Ret (.tuple #[.int .u64 (a : Int), .int .i64 b, .int .i64 (c : Int)]) w) := by
  have := vget_any s i w hs
  rw [h] at this
  exact this
theorem getR_nat {s : ByteArray} {k : Nat} (h : k ≤ s.size) {a b c : Nat} (hg : getL (s.data.toList.drop k) = (a, b, c)) : getR s k = if c = 0 then (a, (k : Int) + b, 0) else (0, 0, c) := getR_in h hg







end Go.Proofs.Ytnlbfanbgicmgaa
