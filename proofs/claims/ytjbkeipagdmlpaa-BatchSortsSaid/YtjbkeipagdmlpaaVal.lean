/- Layer 6: what Check, Compare return; values and columns as they come in. -/
import Derived.Test.YtjbkeipagdmlpaaKit
import Derived.BigQuiet
import Derived.BigRegion
import Derived.StillTailTactics
import Derived.Handy
namespace Go.VL
open Go.RowKit Go.VB

/-- The value n, s lies in the range of a type. -/
def okP (ty n : Int) (s : ByteArray) : Bool :=
  if ty = 2 then decide (n = 0 ∨ n = 1) else if ty = 3 then decide (s.size ≤ 64) else if ty = 4 then decide (-719162 ≤ n ∧ n ≤ 2932896)
  else if ty = 5 then decide (-999999999999999999 ≤ n ∧ n ≤ 999999999999999999) else true
def okT (ty : Int) : Bool := decide (1 ≤ ty ∧ ty ≤ 5)
/-- What Check returns. -/
def chk (ty : Int) (nu nul : Bool) (n : Int) (s : ByteArray) : Nat :=
  if okT ty = false then 1
  else if nul then (if n ≠ 0 ∨ s.size ≠ 0 then 11 else if nu then 0 else 12)
  else if (ty = 3 ∧ n ≠ 0) ∨ (ty ≠ 3 ∧ s.size ≠ 0) then 11
  else if okP ty n s then 0 else 4
theorem chk_ty {ty n : Int} {nu nul : Bool} {s : ByteArray} (h : okT ty = false) : chk ty nu nul n s = 1 := if_pos h
theorem chk_nul {ty n : Int} {nu : Bool} {s : ByteArray} (h : okT ty = true) : chk ty nu true n s = if n ≠ 0 ∨ s.size ≠ 0 then 11 else if nu then 0 else 12 := by
  unfold chk; rw [h]; rfl
theorem chk_val {ty n : Int} {nu : Bool} {s : ByteArray} (h : okT ty = true) : chk ty nu false n s = if (ty = 3 ∧ n ≠ 0) ∨ (ty ≠ 3 ∧ s.size ≠ 0) then 11 else if okP ty n s then 0 else 4 := by
  unfold chk; rw [h]; rfl
theorem ieq_t {a b : Int} (h : a = b) : (a == b) = true := beq_iff_eq.2 h
theorem ieq_f {a b : Int} (h : ¬ a = b) : (a == b) = false := beq_eq_false_iff_ne.2 h
theorem ine_t {a b : Int} (h : ¬ a = b) : (a != b) = true := by simp [bne, ieq_f h]
theorem ine_f {a b : Int} (h : a = b) : (a != b) = false := by simp [bne, ieq_t h]
end Go.VL
