/- The walks over Put and Get, package value's and the reference's. -/
import Derived.Test.YtjbkeipagdmlpaaVarRef
import Derived.Test.YtjbkeipagdmlpaaConfl
import Derived.Test.YtjbkeipagdmlpaaValW5
import Derived.Test.YtjbkeipagdmlpaaValV
import Derived.Deep.RegionWith
namespace Go.VL
open Go.RowKit Go.VB Go.VarM
/-- The binary form of a value. -/
def putV (nul : Bool) (n : Int) (s : ByteArray) : List UInt8 := if nul then [0] else [1] ++ putL (zigN n).toNat ++ putL s.size ++ s.data.toList
/-- A read value, the index behind it and a code. -/
structure GV where
  nul : Bool
  n : Int
  s : ByteArray
  i : Int
  e : Nat
def GV.val (g : GV) : Value := .tuple #[.agg #[.bool g.nul, .int .i64 g.n, .string g.s], .int .i64 g.i, .int .i64 (g.e : Int)]
def gvF (e : Nat) : GV := ⟨false, 0, ⟨#[]⟩, 0, e⟩
/-- What is read behind the first byte. -/
def getP (s : ByteArray) (i : Int) : GV :=
  if (getR s i).2.2 ≠ 0 then gvF (getR s i).2.2
  else if (getR s (getR s i).2.1).2.2 ≠ 0 then gvF (getR s (getR s i).2.1).2.2
  else if (s.size : Int) - (getR s (getR s i).2.1).2.1 < (getR s (getR s i).2.1).1 then gvF 10
  else ⟨false, zagN (getR s i).1, s.extract (getR s (getR s i).2.1).2.1.toNat ((getR s (getR s i).2.1).2.1.toNat + (getR s (getR s i).2.1).1), (getR s (getR s i).2.1).2.1 + (getR s (getR s i).2.1).1, 0⟩
def getV (s : ByteArray) (i : Int) : GV :=
  if i < 0 ∨ (s.size : Int) < i then gvF 4
  else if i = s.size then gvF 10
  else if bN s i.toNat = 0 then ⟨true, 0, ⟨#[]⟩, i + 1, 0⟩
  else if bN s i.toNat = 1 then getP s (i + 1)
  else gvF 2
theorem getR_okV {s : ByteArray} {i : Int} (h : (getR s i).2.2 = 0) : 0 ≤ (getR s i).2.1 ∧ (getR s i).2.1 ≤ s.size ∧ (getR s i).1 < 18446744073709551616 := by
  unfold getR at h ⊢
  by_cases hr : i < 0 ∨ (s.size : Int) < i
  · rw [if_pos hr] at h; cases h
  · rw [if_neg hr] at h ⊢
    by_cases h0 : (getL (s.data.toList.drop i.toNat)).2.2 = 0
    · simp only [h0, if_true]
      obtain ⟨h1, h2, _, h4⟩ := getL_ok h0
      rw [List.length_drop, size_list] at h2
      exact ⟨by omega, by omega, h4⟩
    · simp only [h0, if_false] at h
/-- A text of one byte. -/
theorem one_byte (s : ByteArray) (k : Nat) (h : k < s.size) : (s.extract k (k + 1)).toList = [UInt8.ofNat (bN s k)] := by
  rw [ByteArray.toList_eq, extract_list, show k + 1 - k = 1 from by omega]
  unfold bN
  rw [List.take_one, List.head?_drop, List.getD_eq_getElem?_getD, List.getElem?_eq_getElem (by rw [size_list]; exact h)]
  simp
end Go.VL
namespace Go.Proofs.Ytjbkeipagdmlpaa
open Go.RowKit Go.VB Go.VL Go.VarM
end Go.Proofs.Ytjbkeipagdmlpaa
