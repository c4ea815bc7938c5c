/- The walks over the reference of package varint, and over Zig and Zag. -/
import Derived.Test.YtjbkeipagdmlpaaVarGet
namespace Go.VarM
open Go.RowKit Go.VB
theorem or_shift (v b k : Nat) (hv : v < 128 ^ k) (hk : k ≤ 9) (hb : k ≤ 8 ∨ b ≤ 1) (hb' : b < 256) :
    bits .or .u64 (v : Int) (IntKind.u64.wrap ((b : Int) % 128 * 2 ^ (7 * k))) = ((v + b % 128 * 128 ^ k : Nat) : Int) ∧ b % 128 * 128 ^ k + v < 18446744073709551616 := by
  have hp : 128 ^ k = 2 ^ (7 * k) := pow_128 k
  have hlt : b % 128 * 128 ^ k + v < 18446744073709551616 := by
    rcases hb with h | h
    · have h1 : (128 : Nat) ^ k ≤ 128 ^ 8 := Nat.pow_le_pow_right (by decide) h
      have h2 : b % 128 * 128 ^ k ≤ 127 * 128 ^ 8 := Nat.mul_le_mul (by omega) h1
      rw [show (128 : Nat) ^ 8 = 72057594037927936 from by decide] at *
      omega
    · have h1 : (128 : Nat) ^ k ≤ 128 ^ 9 := Nat.pow_le_pow_right (by decide) hk
      have h2 : b % 128 * 128 ^ k ≤ 1 * 128 ^ 9 := Nat.mul_le_mul (by omega) h1
      rw [show (128 : Nat) ^ 9 = 9223372036854775808 from by decide] at *
      omega
  refine ⟨?_, hlt⟩
  have h := u64_or_nat v (b % 128 * 128 ^ k) (by omega) (by omega)
  rw [Nat.or_comm, nat_join (7 * k) (b % 128 * 128 ^ k) v (by rw [hp]; exact Nat.mul_mod_left _ _) (by rw [← hp]; exact hv), Nat.add_comm] at h
  rw [← h, hp]
  have e : ((b % 128 * 2 ^ (7 * k) : Nat) : Int) = (b : Int) % 128 * 2 ^ (7 * k) := by push_cast; rfl
  rw [← e, IntWalk.u64_in _ ⟨by omega, by rw [← hp]; omega⟩]
theorem or_shift9 (v b : Nat) (h : bits .or .u64 (v : Int) (IntKind.u64.wrap ((b : Int) % 128 * 2 ^ (7 * 9))) = ((v + b % 128 * 128 ^ 9 : Nat) : Int)) :
    b ≤ 1 → bits .or .u64 (v : Int) ((b : Int) % 128 * 9223372036854775808) = ((v + b % 128 * 128 ^ 9 : Nat) : Int) := fun hb => by
  rw [show ((b : Int) % 128 * 2 ^ (7 * 9)) = (b : Int) % 128 * 9223372036854775808 from rfl, IntWalk.u64_in _ ⟨by omega, by omega⟩] at h
  exact h
/-- The reading after k bytes, all with the highest bit. -/
theorem getL_short {l : List UInt8} {k : Nat} (hk : k < 10) (hl : l.length ≤ k) (hall : ∀ j, j < k → 128 ≤ (l.getD j 0).toNat) : getL l = (0, 0, 10) := by
  unfold getL
  rw [sizeL_none 10 l (fun j _ h2 => hall j (by omega))]
  simp [show l.length < 10 from by omega]
theorem getL_over {l : List UInt8} (hl : 10 ≤ l.length) (hall : ∀ j, j < 10 → 128 ≤ (l.getD j 0).toNat) : getL l = (0, 0, 8) := by
  unfold getL
  rw [sizeL_none 10 l (fun j h _ => hall j h)]
  simp [show ¬ l.length < 10 from by omega]
theorem getL_over1 {l : List UInt8} (hl : 9 < l.length) (hall : ∀ j, j < 9 → 128 ≤ (l.getD j 0).toNat) (hb : 1 < (l.getD 9 0).toNat) : getL l = (0, 0, 8) := by
  by_cases h : (l.getD 9 0).toNat < 128
  · unfold getL
    rw [sizeL_hit 10 l 9 (by omega) hl hall h]
    simp only [Nat.reduceAdd, Nat.reduceSub, true_and]
    rw [if_pos hb]
  · exact getL_over (by omega) (fun j hj => by
      by_cases hj9 : j = 9
      · subst hj9; omega
      · exact hall j (by omega))
theorem getL_hit {l : List UInt8} {k : Nat} (hk : k ≤ 9) (hl : k < l.length) (hall : ∀ j, j < k → 128 ≤ (l.getD j 0).toNat) (hb : (l.getD k 0).toNat < 128) (h9 : k ≤ 8 ∨ (l.getD k 0).toNat ≤ 1) :
    getL l = if 0 < k ∧ (l.getD k 0).toNat = 0 then (0, 0, 2) else (joinL (l.take k) + (l.getD k 0).toNat % 128 * 128 ^ k, k + 1, 0) := by
  unfold getL
  rw [sizeL_hit 10 l k (by omega) hl hall hb]
  simp only [Nat.add_sub_cancel]
  rw [if_neg (by omega)]
  have e : joinL (l.take (k + 1)) = joinL (l.take k) + (l.getD k 0).toNat % 128 * 128 ^ k := by
    rw [List.take_succ_eq_append_getElem hl, joinL_append, List.length_take, Nat.min_eq_left (by omega)]
    simp only [joinL]
    rw [List.getD_eq_getElem?_getD, List.getElem?_eq_getElem hl, Option.getD_some, Nat.mul_zero, Nat.add_zero, Nat.mul_comm]
  rw [e]
  by_cases h : 0 < k ∧ (l.getD k 0).toNat = 0
  · rw [if_pos h, if_pos ⟨by omega, h.2⟩]
  · rw [if_neg h, if_neg (by omega)]
theorem joinL_take_succ {l : List UInt8} {k : Nat} (hl : k < l.length) : joinL (l.take (k + 1)) = joinL (l.take k) + (l.getD k 0).toNat % 128 * 128 ^ k := by
  rw [List.take_succ_eq_append_getElem hl, joinL_append, List.length_take, Nat.min_eq_left (by omega)]
  simp only [joinL]
  rw [List.getD_eq_getElem?_getD, List.getElem?_eq_getElem hl, Option.getD_some, Nat.mul_zero, Nat.add_zero, Nat.mul_comm]
theorem joinL_take_lt {l : List UInt8} {k : Nat} (hl : k ≤ l.length) : joinL (l.take k) < 128 ^ k := by
  have := joinL_lt (l.take k)
  rwa [List.length_take, Nat.min_eq_left hl] at this
end Go.VarM
namespace Go.Proofs.Ytjbkeipagdmlpaa
open Go.RowKit Go.VB Go.VarM

end Go.Proofs.Ytjbkeipagdmlpaa
