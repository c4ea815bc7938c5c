/- The walks over package decimal's and the reference's numbers of texts. -/
import Derived.Test.YtidlemedkjkmdaaDoorDecW6
import Derived.Test.YtidlemedkjkmdaaDoorDecW7
import Derived.Test.YtidlemedkjkmdaaDoorDecW2
namespace Go.DC
open Go.VB Go.DT Go.RowKit
theorem PN_range {s : ByteArray} {k : Int} (h : ¬ okS k) : PN s k = 0 := if_neg fun hk => h hk.1
theorem PC_range {s : ByteArray} {k : Int} (h : ¬ okS k) : PC s k = 4 := if_neg h
theorem PN_form {s : ByteArray} {k : Int} (h : ¬ okF s) : PN s k = 0 := if_neg fun hk => h hk.2.1
theorem PC_form {s : ByteArray} {k : Int} (h : okS k) (h2 : ¬ okF s) : PC s k = 2 := by unfold PC; rw [if_pos h, if_neg h2]
theorem PN_over {s : ByteArray} {k : Int} (h : ¬ fitsD s k.toNat) : PN s k = 0 := if_neg fun hk => h hk.2.2
theorem PC_over {s : ByteArray} {k : Int} (h : okS k) (h2 : okF s) (h3 : ¬ fitsD s k.toNat) : PC s k = 8 := by unfold PC; rw [if_pos h, if_pos h2, if_neg h3]
theorem PN_in {s : ByteArray} {k : Int} (h : okS k) (h2 : okF s) (h3 : fitsD s k.toNat) : PN s k = sgn (ngb s) (big s k.toNat) := if_pos ⟨h, h2, h3⟩
theorem PC_in {s : ByteArray} {k : Int} (h : okS k) (h2 : okF s) (h3 : fitsD s k.toNat) : PC s k = 0 := by unfold PC; rw [if_pos h, if_pos h2, if_pos h3]
/-- All bytes of the two parts are digits. -/
theorem parts_dig {s : ByteArray} (h : okF s) : (∀ k, k < (ip (body s)).size → dig (bN (ip (body s)) k)) ∧ (∀ k, k < (fp (body s)).size → dig (bN (fp (body s)) k)) := by
  obtain ⟨h1, h2, h3⟩ := h.1
  refine ⟨fun k hk => ?_, fun k hk => ?_⟩
  · unfold ip at hk ⊢
    rw [size_extract _ _ _ (cd_le _)] at hk
    rw [bN_extract _ _ _ _ hk, Nat.zero_add]
    exact cd_dig _ (by omega)
  · by_cases hp : cd (body s) < (body s).size
    · have h4 := (h3 hp).2.2
      exact cd_dig _ (by omega)
    · unfold fp at hk
      rw [if_neg hp] at hk
      exact absurd hk (Nat.not_lt_zero _)
theorem bN_app_l {a b : ByteArray} {k : Nat} (h : k < a.size) : bN (a ++ b) k = bN a k := by
  unfold bN
  rw [ByteArray.data_append, Array.toList_append, List.getD_eq_getElem?_getD, List.getD_eq_getElem?_getD, List.getElem?_append_left (by rw [size_list]; exact h)]
theorem bN_app_r {a b : ByteArray} {k : Nat} (h : a.size ≤ k) : bN (a ++ b) k = bN b (k - a.size) := by
  unfold bN
  rw [ByteArray.data_append, Array.toList_append, List.getD_eq_getElem?_getD, List.getD_eq_getElem?_getD, List.getElem?_append_right (by rw [size_list]; exact h), size_list]
theorem app_dig {a b : ByteArray} (ha : ∀ k, k < a.size → dig (bN a k)) (hb : ∀ k, k < b.size → dig (bN b k)) : ∀ k, k < (a ++ b).size → dig (bN (a ++ b) k) := by
  intro k hk
  rw [ByteArray.size_append] at hk
  by_cases h : k < a.size
  · rw [bN_app_l h]; exact ha k h
  · rw [bN_app_r (by omega)]; exact hb _ (by omega)
theorem zeros_dig (d : Nat) : ∀ k, k < (str (by8 (List.replicate d 48))).size → dig (bN (str (by8 (List.replicate d 48))) k) := by
  intro k hk
  rw [str_size, by8_len, List.length_replicate] at hk
  rw [bN_by8 _ (fun x hx => by rw [List.eq_of_mem_replicate hx]; decide) k (by rw [List.length_replicate]; exact hk)]
  rw [List.getD_eq_getElem?_getD, List.getElem?_replicate, if_pos hk]
  decide
theorem parts_size {s : ByteArray} : (ip (body s)).size ≤ s.size ∧ (fp (body s)).size ≤ s.size ∧ (ip (body s)).size + (fp (body s)).size ≤ s.size := by
  have hb : (body s).size ≤ s.size := by
    unfold body; split
    · rw [size_extract _ _ _ (Nat.le_refl _)]; omega
    · exact Nat.le_refl _
  have h1 := cd_le (body s)
  have hi : (ip (body s)).size = cd (body s) := by unfold ip; rw [size_extract _ _ _ h1]; omega
  have hf : (fp (body s)).size ≤ (body s).size - cd (body s) := by
    unfold fp; split
    · rw [size_extract _ _ _ (Nat.le_refl _)]; omega
    · exact Nat.zero_le _
  omega
/-- What is great without zeros is great with them. -/
theorem big_grow (s : ByteArray) (k : Nat) : vl (ip (body s) ++ fp (body s)) ≤ big s k := by
  unfold big
  have := pow_pos' (k - (fp (body s)).size)
  calc vl (ip (body s) ++ fp (body s)) = vl (ip (body s) ++ fp (body s)) * 1 := (Nat.mul_one _).symm
    _ ≤ _ := Nat.mul_le_mul_left _ this
/-- More than 18 digits in front of the point: great. -/
theorem big_long {s : ByteArray} (h : okF s) (hl : 18 < (ip (body s)).size) (k : Nat) : 999999999999999999 < big s k := by
  have hd := (parts_dig h).1 0 (by omega)
  have hi : (ip (body s)).size = cd (body s) := by unfold ip; rw [size_extract _ _ _ (cd_le _)]; omega
  have h0 : ¬ bN (ip (body s)) 0 = 48 := by
    intro h0
    refine h.1.2.1 ⟨by omega, ?_⟩
    unfold ip at h0
    rw [bN_extract _ _ _ _ (by omega)] at h0
    simpa using h0
  have h1 := vl_head (t := ip (body s)) (by omega) hd h0
  have h2 : 10 ^ 18 ≤ 10 ^ ((ip (body s)).size - 1) := Nat.pow_le_pow_right (by decide) (by omega)
  have h3 : vl (ip (body s)) ≤ vl (ip (body s) ++ fp (body s)) := by
    rw [vl_app]
    have h4 := nmF_ge (vl (ip (body s))) (cut (fp (body s)) 0 (fp (body s)).size)
    have h5 := pow_pos' (cut (fp (body s)) 0 (fp (body s)).size).length
    have h6 := Nat.mul_le_mul_left (vl (ip (body s))) h5
    omega
  have h4 := big_grow s k
  omega
theorem sgn_abs (b : Bool) (v : Nat) : (sgn b v).natAbs = v := by unfold sgn; split <;> omega
theorem sgn_mul (b : Bool) (v d : Nat) : sgn b v * ((10 ^ d : Nat) : Int) = sgn b (v * 10 ^ d) := by
  unfold sgn
  split
  · push_cast; rw [Int.neg_mul]
  · push_cast; rfl
end Go.DC
namespace Go.Proofs.YtidlemedkjkmdaaDoor
open Go.RowKit Go.VB Go.DT Go.DC
theorem num3 {v v' : Value} {c c' : Value} (h : v = v') (h2 : c = c') : Value.tuple #[v, c] = .tuple #[v', c'] := by rw [h, h2]
end Go.Proofs.YtidlemedkjkmdaaDoor
