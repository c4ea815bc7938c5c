/- The walks over Pack of package bitpack and of its reference. -/
import Derived.Test.YteodifbbgohkpaaBitW2
namespace Go.Proofs.Yteodifbbgohkpaa
open Go.RowKit Go.VB Go.VarM Go.BP

theorem nvs_u8 {bs : List Nat} (h : ∀ x ∈ bs, x < 2 ^ 8) : (bs.map UInt8.ofNat).map bv = nvs .u8 bs := by
  rw [List.map_map]
  refine List.map_congr_left fun x hx => ?_
  have := h x hx
  simp only [Function.comp, bv]
  rw [UInt8.toNat_ofNat', Nat.mod_eq_of_lt this]
theorem RowN.ownB {e : TypeId} {w : World} {base g c : Nat} {bs : List Nat} (h : RowN .u8 e w base g c bs) (hb : ∀ x ∈ bs, x < 2 ^ 8) : OwnB e w base (.slice (some ⟨g, 0, none⟩) bs.length c) (bs.map UInt8.ofNat) := by
  unfold OwnB
  rw [nvs_u8 hb, List.length_map]; exact h
theorem get_mem {l : List Nat} {j : Nat} (h : j < l.length) : l.getD j 0 ∈ l := by
  rw [List.getD_eq_getElem?_getD, List.getElem?_eq_getElem h]; exact List.getElem_mem h
theorem take_snoc {l : List Nat} {j : Nat} (h : j < l.length) : l.take (j + 1) = l.take j ++ [l.getD j 0] := by
  rw [List.take_succ_eq_append_getElem h, List.getD_eq_getElem?_getD, List.getElem?_eq_getElem h]; rfl
theorem big_take {w : Nat} {l : List Nat} {j : Nat} (h : j < l.length) : big w (l.take (j + 1)) = big w (l.take j) + l.getD j 0 * 2 ^ (w * j) := by
  rw [take_snoc h, big_snoc, List.length_take, Nat.min_eq_left (by omega)]
theorem take_lt {w : Nat} {l : List Nat} {j : Nat} (h : j < l.length) (ht : ∀ x ∈ l.take j, x < 2 ^ w) (hx : l.getD j 0 < 2 ^ w) : ∀ x ∈ l.take (j + 1), x < 2 ^ w := by
  intro x hm
  rw [take_snoc h, List.mem_append] at hm
  rcases hm with hm | hm
  · exact ht x hm
  · rw [List.mem_singleton] at hm; subst hm; exact hx
theorem big_take_lt {w : Nat} {l : List Nat} {j : Nat} (h : j ≤ l.length) (ht : ∀ x ∈ l.take j, x < 2 ^ w) : big w (l.take j) < 2 ^ (w * j) := by
  have := big_lt ht
  rwa [List.length_take, Nat.min_eq_left h] at this
theorem pow_need {n w j : Nat} (h : j ≤ n) : (2 : Nat) ^ (w * j) ≤ 2 ^ (8 * ((n * w + 7) / 8)) := by
  refine Nat.pow_le_pow_right (by decide) ?_
  have : w * j ≤ n * w := by rw [Nat.mul_comm]; exact Nat.mul_le_mul_right _ h
  omega
theorem shr_ne {V k : Nat} : ((V : Int) / 2 ^ k != 0) = decide (¬ V < 2 ^ k) := by
  have e : ((V : Int) / 2 ^ k) = ((V / 2 ^ k : Nat) : Int) := by push_cast; rfl
  rw [e, Bool.eq_iff_iff, bne_iff_ne, decide_eq_true_iff]
  have := shr_zero V k
  omega
end Go.Proofs.Yteodifbbgohkpaa
