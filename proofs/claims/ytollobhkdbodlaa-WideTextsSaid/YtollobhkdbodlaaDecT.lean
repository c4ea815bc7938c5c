/- Plain facts on the texts of decimals: their form and their number. -/
import Derived.Test.YtollobhkdbodlaaDec
namespace Go.DC
open Go.VB Go.DT
/-- A byte that is a digit. -/
def dig (b : Nat) : Prop := 48 ≤ b ∧ b ≤ 57
instance (b : Nat) : Decidable (dig b) := by unfold dig; infer_instance
/-- The number of digits at the head. -/
def cdF : List UInt8 → Nat
  | [] => 0
  | c :: l => if dig c.toNat then cdF l + 1 else 0
def cd (t : ByteArray) : Nat := cdF t.data.toList
theorem cdF_le (l : List UInt8) : cdF l ≤ l.length := by
  induction l with
  | nil => exact Nat.le_refl _
  | cons c l ih => rw [cdF, List.length_cons]; split <;> omega
theorem cdF_dig (l : List UInt8) : ∀ k, k < cdF l → dig (l.getD k 0).toNat := by
  induction l with
  | nil => intro k hk; exact absurd hk (Nat.not_lt_zero _)
  | cons c l ih =>
    intro k hk
    rw [cdF] at hk
    by_cases hc : dig c.toNat
    · rw [if_pos hc] at hk
      cases k with
      | zero => exact hc
      | succ k => exact ih k (by omega)
    · rw [if_neg hc] at hk; exact absurd hk (Nat.not_lt_zero _)
theorem cdF_stop (l : List UInt8) : cdF l < l.length → ¬ dig (l.getD (cdF l) 0).toNat := by
  induction l with
  | nil => intro h; exact absurd h (Nat.not_lt_zero _)
  | cons c l ih =>
    intro h
    rw [cdF] at h ⊢
    by_cases hc : dig c.toNat
    · rw [if_pos hc] at h ⊢
      exact ih (by rw [List.length_cons] at h; omega)
    · rw [if_neg hc]; exact hc
theorem cd_le (t : ByteArray) : cd t ≤ t.size := by have := cdF_le t.data.toList; rwa [size_list] at this
theorem cd_dig (t : ByteArray) {k : Nat} (h : k < cd t) : dig (bN t k) := cdF_dig _ k h
theorem cd_stop (t : ByteArray) (h : cd t < t.size) : ¬ dig (bN t (cd t)) := cdF_stop _ (by rw [size_list]; exact h)
theorem cd_eq {t : ByteArray} {j : Nat} (hj : j ≤ t.size) (h : ∀ k, k < j → dig (bN t k)) (e : j = t.size ∨ ¬ dig (bN t j)) : cd t = j := by
  have h1 := cd_le t
  rcases Nat.lt_trichotomy (cd t) j with hl | hl | hl
  · exact absurd (h _ hl) (cd_stop t (by omega))
  · exact hl
  · rcases e with e | e
    · omega
    · exact absurd (cd_dig t hl) e
/-- All bytes are zeros. -/
def allz (t : ByteArray) : Bool := t.data.toList.all fun c => c == 48
theorem u8_48 {c : UInt8} : (c == 48) = true ↔ c.toNat = 48 := by
  rw [beq_iff_eq]
  exact ⟨fun h => by rw [h]; rfl, fun h => UInt8.toNat_inj.1 h⟩
theorem allz_iff {t : ByteArray} : allz t = true ↔ ∀ k, k < t.size → bN t k = 48 := by
  unfold allz
  rw [List.all_eq_true]
  refine ⟨fun h k hk => ?_, fun h c hc => ?_⟩
  · unfold bN
    rw [List.getD_eq_getElem?_getD, List.getElem?_eq_getElem (by rw [size_list]; exact hk)]
    exact u8_48.1 (h _ (List.getElem_mem _))
  · obtain ⟨k, hk, rfl⟩ := List.getElem_of_mem hc
    have := h k (by rw [← size_list]; exact hk)
    unfold bN at this
    rw [List.getD_eq_getElem?_getD, List.getElem?_eq_getElem hk] at this
    exact u8_48.2 this
theorem allz_true {t : ByteArray} (h : ∀ k, k < t.size → bN t k = 48) : allz t = true := allz_iff.2 h
theorem allz_false {t : ByteArray} {k : Nat} (hk : k < t.size) (h : ¬ bN t k = 48) : allz t = false := by
  cases ha : allz t
  · rfl
  · exact absurd (allz_iff.1 ha k hk) h
theorem allz_app (a b : ByteArray) : allz (a ++ b) = (allz a && allz b) := by
  unfold allz
  rw [ByteArray.data_append, Array.toList_append, List.all_append]
/-- The number of a text of digits. -/
def vl (t : ByteArray) : Nat := nm t 0 t.size
/-- Whether there is a minus sign; what stands behind it; the digits in front of the point, and those behind it. -/
def ngb (s : ByteArray) : Bool := decide (0 < s.size ∧ bN s 0 = 45)
def body (s : ByteArray) : ByteArray := if ngb s then s.extract 1 s.size else s
def ip (t : ByteArray) : ByteArray := t.extract 0 (cd t)
def fp (t : ByteArray) : ByteArray := if cd t < t.size then t.extract (cd t + 1) t.size else ⟨#[]⟩
/-- The form of a text without its sign. -/
def okB (t : ByteArray) : Prop := cd t ≠ 0 ∧ ¬ (1 < cd t ∧ bN t 0 = 48) ∧ (cd t < t.size → bN t (cd t) = 46 ∧ (fp t).size ≠ 0 ∧ cd (fp t) = (fp t).size)
instance (t : ByteArray) : Decidable (okB t) := by unfold okB; infer_instance
def okF (s : ByteArray) : Prop := okB (body s) ∧ ¬ (ngb s = true ∧ allz (ip (body s)) = true ∧ allz (fp (body s)) = true)
instance (s : ByteArray) : Decidable (okF s) := by unfold okF; infer_instance
/-- The number that a text denotes with scale k, without its sign, and whether there is one. -/
def big (s : ByteArray) (k : Nat) : Nat := vl (ip (body s) ++ fp (body s)) * 10 ^ (k - (fp (body s)).size)
def fitsD (s : ByteArray) (k : Nat) : Prop := (fp (body s)).size ≤ k ∧ big s k ≤ 999999999999999999
instance (s : ByteArray) (k : Nat) : Decidable (fitsD s k) := by unfold fitsD; infer_instance
def sgn (b : Bool) (v : Nat) : Int := if b then -(v : Int) else (v : Int)
def PN (s : ByteArray) (k : Int) : Int := if okS k ∧ okF s ∧ fitsD s k.toNat then sgn (ngb s) (big s k.toNat) else 0
def PC (s : ByteArray) (k : Int) : Nat := if okS k then (if okF s then (if fitsD s k.toNat then 0 else 8) else 2) else 4
/-! ### numbers grow -/
theorem nm_grow (t : ByteArray) (j d : Nat) (h : j + d ≤ t.size) : nm t 0 j * 10 ^ d ≤ nm t 0 (j + d) := by
  induction d with
  | zero => rw [Nat.pow_zero, Nat.mul_one]; exact Nat.le_refl _
  | succ d ih =>
    have h1 := ih (by omega)
    have h2 := nm_succ t 0 (j + d) (by omega)
    rw [show j + (d + 1) = j + d + 1 from by omega, h2, Nat.pow_succ, ← Nat.mul_assoc]
    omega
theorem vl_big {t : ByteArray} {j : Nat} (h : j < t.size) (hb : 99999999999999999 < nm t 0 j) : 999999999999999999 < vl t := by
  have h1 := nm_grow t j (t.size - j) (by omega)
  rw [show j + (t.size - j) = t.size from by omega] at h1
  have h2 : 10 ^ 1 ≤ 10 ^ (t.size - j) := Nat.pow_le_pow_right (by decide) (by omega)
  have h3 := Nat.mul_le_mul (show 100000000000000000 ≤ nm t 0 j from hb) h2
  unfold vl
  omega
theorem cut_app (a b : ByteArray) : cut (a ++ b) 0 (a ++ b).size = cut a 0 a.size ++ cut b 0 b.size := by
  unfold cut
  rw [List.drop_zero, List.drop_zero, List.drop_zero, List.take_of_length_le (by rw [size_list]; exact Nat.le_refl _), List.take_of_length_le (by rw [size_list]; exact Nat.le_refl _), List.take_of_length_le (by rw [size_list]; exact Nat.le_refl _), ByteArray.data_append, Array.toList_append, List.map_append]
theorem nmF_app (x : Nat) (a b : List Nat) : nmF x (a ++ b) = nmF (nmF x a) b := by unfold nmF; rw [List.foldl_append]
theorem nmF_ge (x : Nat) (l : List Nat) : x * 10 ^ l.length ≤ nmF x l := by
  induction l generalizing x with
  | nil => rw [List.length_nil, Nat.pow_zero, Nat.mul_one]; exact Nat.le_refl _
  | cons c l ih =>
    have h1 := ih (x * 10 + (c - 48))
    have e : nmF x (c :: l) = nmF (x * 10 + (c - 48)) l := rfl
    rw [e]
    refine Nat.le_trans ?_ h1
    rw [List.length_cons, Nat.pow_succ, Nat.mul_comm (10 ^ l.length), ← Nat.mul_assoc]
    exact Nat.mul_le_mul_right _ (by omega)
theorem nmF_zeros (x d : Nat) : nmF x (List.replicate d 48) = x * 10 ^ d := by
  induction d generalizing x with
  | zero => rw [Nat.pow_zero, Nat.mul_one]; rfl
  | succ d ih =>
    have e : nmF x (List.replicate (d + 1) 48) = nmF (x * 10 + (48 - 48)) (List.replicate d 48) := rfl
    rw [e, ih, Nat.pow_succ, Nat.mul_comm (10 ^ d), ← Nat.mul_assoc]
    rfl
theorem vl_str (l : List Nat) (h : ∀ x ∈ l, x < 256) : vl (str (by8 l)) = nmF 0 l := by
  unfold vl nm
  rw [cut_str l h, str_size, by8_len, List.drop_zero, List.take_of_length_le (Nat.le_refl _)]
theorem vl_app (a b : ByteArray) : vl (a ++ b) = nmF (vl a) (cut b 0 b.size) := by
  unfold vl nm
  rw [cut_app, nmF_app]
theorem cut_zeros (d : Nat) : cut (str (by8 (List.replicate d 48))) 0 (str (by8 (List.replicate d 48))).size = List.replicate d 48 := by
  rw [cut_str _ (fun x hx => by rw [List.eq_of_mem_replicate hx]; decide), str_size, by8_len, List.drop_zero, List.take_of_length_le (Nat.le_refl _)]
theorem vl_zeros (a : ByteArray) (d : Nat) : vl (a ++ str (by8 (List.replicate d 48))) = vl a * 10 ^ d := by rw [vl_app, cut_zeros, nmF_zeros]
theorem nm_first (t : ByteArray) (h : 0 < t.size) : nm t 0 1 = bN t 0 - 48 := by
  have := nm_succ t 0 0 (by omega)
  rw [nm_zero] at this
  simpa using this
/-- Digits without a zero at the head: the number is great. -/
theorem vl_head {t : ByteArray} (h : 0 < t.size) (hd : dig (bN t 0)) (h0 : ¬ bN t 0 = 48) : 10 ^ (t.size - 1) ≤ vl t := by
  have h1 := nm_grow t 1 (t.size - 1) (by omega)
  rw [show 1 + (t.size - 1) = t.size from by omega, nm_first t h] at h1
  unfold dig at hd
  have h2 : 1 * 10 ^ (t.size - 1) ≤ (bN t 0 - 48) * 10 ^ (t.size - 1) := Nat.mul_le_mul_right _ (by omega)
  unfold vl
  omega
theorem allz_vl {t : ByteArray} (h : allz t = true) : vl t = 0 := by
  have key : ∀ j, j ≤ t.size → nm t 0 j = 0 := by
    intro j
    induction j with
    | zero => intro _; rfl
    | succ j ih =>
      intro hj
      rw [nm_succ t 0 j (by omega), ih (by omega), Nat.zero_add j, allz_iff.1 h j (by omega)]
  exact key _ (Nat.le_refl _)
end Go.DC
