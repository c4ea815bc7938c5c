/- The walks over Compare, package value's and the reference's. -/
import Derived.Test.YtfkdenlpailmeaaDoorValW3
namespace Go.VL
open Go.RowKit Go.VB
def cmpI (a b : Int) : Int := if a < b then -1 else if b < a then 1 else 0
def cmpS (a b : ByteArray) : Int := if Go.Op.bytesLess a.toList b.toList then -1 else if Go.Op.bytesLess b.toList a.toList then 1 else 0
/-- What Compare returns. -/
def cmp (ty : Int) (x : Bool) (n : Int) (s : ByteArray) (y : Bool) (m : Int) (t : ByteArray) : Int :=
  if x then (if y then 0 else -1) else if y then 1 else if ty = 3 then cmpS s t else cmpI n m
theorem less_irr : ∀ (a : List UInt8), Go.Op.bytesLess a a = false
  | [] => rfl
  | a :: l => by simp [Go.Op.bytesLess, less_irr l]
theorem less_tri : ∀ (a b : List UInt8), Go.Op.bytesLess a b = true ∨ a = b ∨ Go.Op.bytesLess b a = true
  | [], [] => .inr (.inl rfl)
  | [], _ :: _ => .inl rfl
  | _ :: _, [] => .inr (.inr rfl)
  | a :: l, b :: m => by
    have h := less_tri l m
    simp only [Go.Op.bytesLess]
    by_cases h1 : a < b
    · simp [h1]
    · by_cases h2 : b < a
      · simp [h2]
      · have e : a = b := by
          apply UInt8.toNat_inj.1
          have h1' : ¬ a.toNat < b.toNat := h1
          have h2' : ¬ b.toNat < a.toNat := h2
          omega
        subst e
        simp only [h1, beq_self_eq_true, Bool.false_or, decide_false, Bool.true_and, List.cons.injEq, true_and]
        simpa using h
theorem less_asym : ∀ (a b : List UInt8), Go.Op.bytesLess a b = true → Go.Op.bytesLess b a = false
  | [], [], h => by simp [Go.Op.bytesLess] at h
  | [], _ :: _, _ => rfl
  | _ :: _, [], h => by simp [Go.Op.bytesLess] at h
  | a :: l, b :: m, h => by
    simp only [Go.Op.bytesLess] at h ⊢
    by_cases h1 : a < b
    · have h2 : ¬ b < a := fun h2 => by have h1' : a.toNat < b.toNat := h1; have h2' : b.toNat < a.toNat := h2; omega
      have h3 : ¬ b = a := fun e => by subst e; exact h2 h1
      simp [h2, h3]
    · simp [h1] at h
      obtain ⟨rfl, h⟩ := h
      simp [less_asym l m h]
theorem cmpS_at (s t : ByteArray) : (if Go.Op.bytesLess s.toList t.toList then -1 else if (s.toList == t.toList) then 0 else 1) = cmpS s t := by
  unfold cmpS
  have h := less_tri s.toList t.toList
  cases h1 : Go.Op.bytesLess s.toList t.toList
  · cases h2 : Go.Op.bytesLess t.toList s.toList
    · rw [h1, h2] at h
      have e : s.toList = t.toList := by simpa using h
      simp [e]
    · have e : (s.toList == t.toList) = false := beq_eq_false_iff_ne.2 fun e => by rw [e, less_irr] at h2; cases h2
      simp [e]
  · rfl
end Go.VL
namespace Go.Proofs.YtfkdenlpailmeaaDoor
open Go.RowKit Go.VB Go.VL
end Go.Proofs.YtfkdenlpailmeaaDoor
