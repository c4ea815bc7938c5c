/- The walks over Put and Get, package value's and the reference's. -/
import Derived.Test.YtnmlajmaffiigaaGreatDoorGv
import Derived.Test.YtnmlajmaffiigaaGreatDoorGc
import Derived.Test.YtnmlajmaffiigaaGreatDoorGw
import Derived.Deep.RegionWith
namespace Go.VL
open Go.RowKit Go.VB Go.VarM
/-- The binary form of a value. -/
def putV (nul : Bool) (n : Int) (s : ByteArray) : List UInt8 := if nul then [0] else [1] ++ putL (zigN n).toNat ++ putL s.size ++ s.data.toList
/-- A read value, the index behind it and a code. -/
structure GV where
  nul : Bool
  n : Int
  s : ByteArray
  i : Int
  e : Nat
def GV.val (g : GV) : Value := .tuple #[.agg #[.bool g.nul, .int .i64 g.n, .string g.s], .int .i64 g.i, .int .i64 (g.e : Int)]
end Go.VL
namespace Go.Proofs.YtnmlajmaffiigaaGreatDoor
open Go.RowKit Go.VB Go.VL Go.VarM
end Go.Proofs.YtnmlajmaffiigaaGreatDoor

namespace Go.VL
open Go.RowKit Go.VB Go.VarM
theorem cmpI_neg (a b : Int) : cmpI b a = -cmpI a b := by unfold cmpI; split <;> split <;> (try split) <;> omega
theorem cmpI_le {a b : Int} : cmpI a b ≤ 0 ↔ a ≤ b := by unfold cmpI; split <;> (try split) <;> omega
theorem less_trans : ∀ (a b c : List UInt8), Go.Op.bytesLess a b = true → Go.Op.bytesLess b c = true → Go.Op.bytesLess a c = true
  | _, [], [], _, h => by simp [Go.Op.bytesLess] at h
  | [], [], _ :: _, h, _ => by simp [Go.Op.bytesLess] at h
  | [], _ :: _, [], _, h => by simp [Go.Op.bytesLess] at h
  | [], _ :: _, _ :: _, _, _ => rfl
  | _ :: _, [], _, h, _ => by simp [Go.Op.bytesLess] at h
  | _ :: _, _ :: _, [], _, h => by simp [Go.Op.bytesLess] at h
  | a :: l, b :: m, c :: n, h1, h2 => by
    simp only [Go.Op.bytesLess, Bool.or_eq_true, decide_eq_true_eq, Bool.and_eq_true, beq_iff_eq] at h1 h2 ⊢
    rcases h1 with h1 | ⟨rfl, h1⟩
    · rcases h2 with h2 | ⟨rfl, _⟩
      · left
        have h1' : a.toNat < b.toNat := h1
        have h2' : b.toNat < c.toNat := h2
        exact (show a.toNat < c.toNat by omega)
      · exact .inl h1
    · rcases h2 with h2 | ⟨rfl, h2⟩
      · exact .inl h2
      · exact .inr ⟨rfl, less_trans l m n h1 h2⟩
theorem toList_inj {s t : ByteArray} (h : s.toList = t.toList) : s = t := by
  rw [ByteArray.toList_eq, ByteArray.toList_eq] at h
  exact Go.WideShapes.bytes_inj h
theorem cmpS_cases (s t : ByteArray) : (Go.Op.bytesLess s.toList t.toList = true ∧ cmpS s t = -1) ∨ (s = t ∧ cmpS s t = 0) ∨ (Go.Op.bytesLess t.toList s.toList = true ∧ cmpS s t = 1) := by
  rcases less_tri s.toList t.toList with h | h | h
  · left; exact ⟨h, by unfold cmpS; rw [if_pos h]⟩
  · right; left
    obtain rfl := toList_inj h
    exact ⟨rfl, by unfold cmpS; rw [less_irr]; rfl⟩
  · right; right
    exact ⟨h, by unfold cmpS; rw [less_asym _ _ h]; simp [h]⟩
theorem cmpS_neg (s t : ByteArray) : cmpS t s = -cmpS s t := by
  rcases cmpS_cases s t with ⟨h, e⟩ | ⟨rfl, e⟩ | ⟨h, e⟩
  · rw [e]; unfold cmpS; rw [less_asym _ _ h]; simp [h]
  · rw [e]; rfl
  · rw [e]; unfold cmpS; rw [if_pos h]
theorem cmpS_le {s t u : ByteArray} (h1 : cmpS s t ≤ 0) (h2 : cmpS t u ≤ 0) : cmpS s u ≤ 0 := by
  rcases cmpS_cases s t with ⟨h, e⟩ | ⟨rfl, e⟩ | ⟨h, e⟩
  · rcases cmpS_cases t u with ⟨h', e'⟩ | ⟨rfl, e'⟩ | ⟨h', e'⟩
    · have := less_trans _ _ _ h h'
      unfold cmpS; rw [if_pos this]; decide
    · exact h1
    · omega
  · exact h2
  · omega
theorem cmp_bd (ty : Int) (x : Bool) (n : Int) (s : ByteArray) (y : Bool) (m : Int) (t : ByteArray) : -1 ≤ cmp ty x n s y m t ∧ cmp ty x n s y m t ≤ 1 := by
  have h1 : -1 ≤ cmpI n m ∧ cmpI n m ≤ 1 := by unfold cmpI; split <;> (try split) <;> omega
  have h2 : -1 ≤ cmpS s t ∧ cmpS s t ≤ 1 := by unfold cmpS; split <;> (try split) <;> omega
  unfold cmp
  cases x <;> cases y <;> simp
  split <;> assumption
theorem cmp_neg (ty : Int) (x : Bool) (n : Int) (s : ByteArray) (y : Bool) (m : Int) (t : ByteArray) : cmp ty y m t x n s = -cmp ty x n s y m t := by
  unfold cmp
  cases x <;> cases y <;> simp
  split
  · exact cmpS_neg s t
  · exact cmpI_neg n m
theorem cmp_le {ty : Int} {x : Bool} {n : Int} {s : ByteArray} {y : Bool} {m : Int} {t : ByteArray} {z : Bool} {k : Int} {u : ByteArray} (h1 : cmp ty x n s y m t ≤ 0) (h2 : cmp ty y m t z k u ≤ 0) : cmp ty x n s z k u ≤ 0 := by
  unfold cmp at *
  cases x <;> cases y <;> cases z <;> simp at *
  split at h1
  · rename_i h3
    rw [if_pos h3] at h2 ⊢
    exact cmpS_le h1 h2
  · rename_i h3
    rw [if_neg h3] at h2 ⊢
    rw [cmpI_le] at *
    omega
end Go.VL
namespace Go.Proofs.YtnmlajmaffiigaaGreatDoor
open Go.RowKit Go.VB Go.VL Go.VarM
end Go.Proofs.YtnmlajmaffiigaaGreatDoor
