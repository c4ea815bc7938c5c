/- Plain facts on decimals: the numbers, rescaling, the digits of a number and its text. -/
import Derived.Test.YtollobhkdbodlaaDateT
namespace Go.DC
open Go.VB Go.DT
/-- A permitted number, a permitted scale. -/
def okN (n : Int) : Prop := -999999999999999999 ≤ n ∧ n ≤ 999999999999999999
instance (n : Int) : Decidable (okN n) := by unfold okN; infer_instance
def okS (k : Int) : Prop := 0 ≤ k ∧ k ≤ 18
instance (k : Int) : Decidable (okS k) := by unfold okS; infer_instance
theorem okN_abs {n : Int} : okN n ↔ n.natAbs ≤ 999999999999999999 := by unfold okN; omega
/-- n with k digits more, if there is room. -/
def up : Nat → Int → Option Int
  | 0, n => some n
  | k + 1, n => if n > 99999999999999999 ∨ n < -99999999999999999 then none else up k (n * 10)
/-- n with k digits fewer, if they are zeros. -/
def down : Nat → Int → Option Int
  | 0, n => some n
  | k + 1, n => if n.tmod 10 = 0 then down k (n.tdiv 10) else none
theorem up_stop {k : Nat} {n : Int} (h : n > 99999999999999999 ∨ n < -99999999999999999) : up (k + 1) n = none := if_pos h
theorem up_go {k : Nat} {n : Int} (h : ¬ (n > 99999999999999999 ∨ n < -99999999999999999)) : up (k + 1) n = up k (n * 10) := if_neg h
theorem down_stop {k : Nat} {n : Int} (h : ¬ n.tmod 10 = 0) : down (k + 1) n = none := if_neg h
theorem down_go {k : Nat} {n : Int} (h : n.tmod 10 = 0) : down (k + 1) n = down k (n.tdiv 10) := if_pos h
theorem pow_pos' (k : Nat) : 1 ≤ 10 ^ k := Nat.pow_pos (by decide)
theorem up_eq (k : Nat) (n : Int) (h : n.natAbs ≤ 999999999999999999) : up k n = if n.natAbs * 10 ^ k ≤ 999999999999999999 then some (n * ((10 ^ k : Nat) : Int)) else none := by
  induction k generalizing n with
  | zero => rw [Nat.pow_zero, Nat.mul_one, if_pos h]; simp [up]
  | succ k ih =>
    have hp := pow_pos' k
    have e : n.natAbs * 10 ^ (k + 1) = (n.natAbs * 10) * 10 ^ k := by rw [Nat.pow_succ, Nat.mul_comm (10 ^ k), Nat.mul_assoc]
    by_cases hs : n > 99999999999999999 ∨ n < -99999999999999999
    · rw [up_stop hs, if_neg]
      rw [e]
      have h1 : 1000000000000000000 ≤ n.natAbs * 10 := by omega
      have h2 := Nat.mul_le_mul h1 hp
      omega
    · rw [up_go hs, ih (n * 10) (by omega), e, show (n * 10).natAbs = n.natAbs * 10 from by omega]
      rw [show n * 10 * ((10 ^ k : Nat) : Int) = n * ((10 ^ (k + 1) : Nat) : Int) from by rw [Nat.pow_succ, Nat.mul_comm (10 ^ k)]; push_cast; rw [Int.mul_assoc]]
theorem down_eq (k : Nat) (m : Int) : down k (m * ((10 ^ k : Nat) : Int)) = some m := by
  induction k with
  | zero => simp [down]
  | succ k ih =>
    have e : m * ((10 ^ (k + 1) : Nat) : Int) = (m * ((10 ^ k : Nat) : Int)) * 10 := by rw [Nat.pow_succ]; push_cast; rw [Int.mul_assoc]
    rw [e, down_go (Int.mul_tmod_left _ _), Int.mul_tdiv_cancel _ (by decide), ih]
/-- What Rescale finds. -/
def resc (n : Int) (a b : Int) : Option Int := if a ≤ b then up (b - a).toNat n else down (a - b).toNat n
def oV (o : Option Int) : Int := o.getD 0
def oC (o : Option Int) : Nat := if o.isSome then 0 else 8
def rsN (n a b : Int) : Int := if okN n ∧ okS a ∧ okS b then oV (resc n a b) else 0
def rsC (n a b : Int) : Nat := if okN n ∧ okS a ∧ okS b then oC (resc n a b) else 4
theorem rsN_in {n a b : Int} (h : okN n ∧ okS a ∧ okS b) : rsN n a b = oV (resc n a b) := if_pos h
theorem rsC_in {n a b : Int} (h : okN n ∧ okS a ∧ okS b) : rsC n a b = oC (resc n a b) := if_pos h
theorem rsN_out {n a b : Int} (h : ¬ (okN n ∧ okS a ∧ okS b)) : rsN n a b = 0 := if_neg h
theorem rsC_out {n a b : Int} (h : ¬ (okN n ∧ okS a ∧ okS b)) : rsC n a b = 4 := if_neg h
/-- With j steps done, x is what is left of n. -/
def upAt (n a b x c : Int) : Prop := resc n a b = up (b - c).toNat x ∧ okN x
def downAt (n a b x c : Int) : Prop := resc n a b = down (c - b).toNat x ∧ okN x
theorem upAt.go {n a b x c : Int} (h : upAt n a b x c) (hc : c < b) (hx : ¬ (x > 99999999999999999 ∨ x < -99999999999999999)) : upAt n a b (x * 10) (c + 1) := by
  obtain ⟨h1, h2⟩ := h
  refine ⟨?_, by unfold okN; omega⟩
  rw [h1, show (b - c).toNat = (b - (c + 1)).toNat + 1 from by omega, up_go hx]
theorem upAt.stop {n a b x c : Int} (h : upAt n a b x c) (hc : c < b) (hx : x > 99999999999999999 ∨ x < -99999999999999999) : resc n a b = none := by
  rw [h.1, show (b - c).toNat = (b - (c + 1)).toNat + 1 from by omega, up_stop hx]
theorem upAt.done {n a b x c : Int} (h : upAt n a b x c) (hc : ¬ c < b) : resc n a b = some x := by
  rw [h.1, show (b - c).toNat = 0 from by omega]; rfl
theorem downAt.go {n a b x c : Int} (h : downAt n a b x c) (hc : b < c) (hx : x.tmod 10 = 0) : downAt n a b (x.tdiv 10) (c - 1) := by
  obtain ⟨h1, h2⟩ := h
  refine ⟨?_, ?_⟩
  · rw [h1, show (c - b).toNat = (c - 1 - b).toNat + 1 from by omega, down_go hx]
  · unfold okN at h2 ⊢
    have h3 : (x.tdiv 10).natAbs = x.natAbs / 10 := Int.natAbs_tdiv x 10
    have h4 := Nat.div_le_self x.natAbs 10
    omega
theorem downAt.stop {n a b x c : Int} (h : downAt n a b x c) (hc : b < c) (hx : ¬ x.tmod 10 = 0) : resc n a b = none := by
  rw [h.1, show (c - b).toNat = (c - 1 - b).toNat + 1 from by omega, down_stop hx]
theorem downAt.done {n a b x c : Int} (h : downAt n a b x c) (hc : ¬ b < c) : resc n a b = some x := by
  rw [h.1, show (c - b).toNat = 0 from by omega]; rfl
theorem upAt.start {n a b : Int} (h : okN n) (hab : a ≤ b) : upAt n a b n a := ⟨if_pos hab, h⟩
theorem downAt.start {n a b : Int} (h : okN n) (hab : ¬ a ≤ b) : downAt n a b n a := ⟨if_neg hab, h⟩
/-! ### how many digits -/
/-- The least j with n < 10 ^ j. -/
def len (n : Nat) : Nat := if n = 0 then 0 else len (n / 10) + 1
termination_by n
decreasing_by omega
theorem len_le (n j : Nat) : n < 10 ^ j ↔ len n ≤ j := by
  induction j generalizing n with
  | zero =>
    rw [Nat.pow_zero, len]
    by_cases h : n = 0
    · simp [h]
    · simp [h]
  | succ j ih =>
    have := ih (n / 10)
    rw [len]
    by_cases h : n = 0
    · subst h; rw [if_pos rfl]
      exact ⟨fun _ => Nat.zero_le _, fun _ => Nat.pow_pos (by decide)⟩
    · rw [if_neg h, Nat.pow_succ]
      omega
theorem div_pow_zero {n j : Nat} : n / 10 ^ j = 0 ↔ len n ≤ j := by
  rw [← len_le, Nat.div_eq_zero_iff]
  have := pow_pos' j
  omega
theorem len_div (n k : Nat) : len (n / 10 ^ k) = len n - k := by
  have key : ∀ j, len (n / 10 ^ k) ≤ j ↔ len n ≤ k + j := fun j => by
    rw [← len_le, ← len_le, Nat.div_lt_iff_lt_mul (pow_pos' k), Nat.pow_add, Nat.mul_comm (10 ^ j)]
  have h1 := (key (len n - k)).2 (by omega)
  have h2 := (key (len (n / 10 ^ k))).1 (Nat.le_refl _)
  omega
theorem len_max {m : Nat} (h : m ≤ 999999999999999999) : len m ≤ 18 := (len_le m 18).1 (by omega)
/-! ### digits -/
theorem dg_one (v : Nat) : dg v 1 = [48 + v % 10] := by simp [dg]
theorem dg_mod (v k : Nat) : ∀ j, j ≤ k → dg (v % 10 ^ k) j = dg v j := by
  intro j
  induction j with
  | zero => intro _; rfl
  | succ j ih =>
    intro hj
    rw [dg, dg, ih (by omega)]
    congr 2
    have e : 10 ^ k = 10 ^ j * 10 ^ (k - j) := by rw [← Nat.pow_add]; congr 1; omega
    rw [e, Nat.mod_mul_right_div_self, Nat.mod_mod_of_dvd]
    rw [show k - j = (k - j - 1) + 1 from by omega, Nat.pow_succ]
    exact Nat.dvd_mul_left _ _
theorem dg_mul (m d : Nat) : ∀ a, dg (m * 10 ^ d) (a + d) = dg m a ++ List.replicate d 48 := by
  have hz : ∀ j, j ≤ d → dg (m * 10 ^ d) j = List.replicate j 48 := by
    intro j
    induction j with
    | zero => intro _; rfl
    | succ j ih =>
      intro hj
      rw [dg, ih (by omega), List.replicate_succ]
      congr 1
      have e : m * 10 ^ d = (m * 10 ^ (d - j - 1) * 10) * 10 ^ j := by
        rw [Nat.mul_assoc, Nat.mul_assoc, ← Nat.pow_succ', ← Nat.pow_add]
        congr 2; omega
      rw [e, Nat.mul_div_cancel _ (pow_pos' j), Nat.mul_mod_left]
  intro a
  induction a with
  | zero => rw [Nat.zero_add, hz d (Nat.le_refl _)]; rfl
  | succ a ih =>
    rw [show a + 1 + d = (a + d) + 1 from by omega, dg, ih, dg, List.cons_append]
    congr 3
    rw [Nat.pow_add, Nat.mul_div_mul_right _ _ (pow_pos' d)]
/-- The digits in front of the point. -/
def wn (m k : Nat) : Nat := max 1 (len (m / 10 ^ k))
def whole (m k : Nat) : List Nat := dg (m / 10 ^ k) (wn m k)
/-- What stands behind them. -/
def tail (m k : Nat) : List Nat := if k = 0 then [] else 46 :: dg m k
def sign (n : Int) : List Nat := if n < 0 then [45] else []
/-- The text of n with scale k. -/
def ft (n : Int) (k : Nat) : List Nat := sign n ++ (whole n.natAbs k ++ tail n.natAbs k)
def FN (n k : Int) : ByteArray := if okN n ∧ okS k then str (by8 (ft n k.toNat)) else ⟨#[]⟩
def FC (n k : Int) : Nat := if okN n ∧ okS k then 0 else 4
theorem FN_in {n k : Int} (h : okN n ∧ okS k) : FN n k = str (by8 (ft n k.toNat)) := if_pos h
theorem FC_in {n k : Int} (h : okN n ∧ okS k) : FC n k = 0 := if_pos h
theorem FN_out {n k : Int} (h : ¬ (okN n ∧ okS k)) : FN n k = ⟨#[]⟩ := if_neg h
theorem FC_out {n k : Int} (h : ¬ (okN n ∧ okS k)) : FC n k = 4 := if_neg h
theorem tail_len (m k : Nat) : (tail m k).length ≤ k + 1 := by
  unfold tail; split
  · exact Nat.zero_le _
  · rw [List.length_cons, dg_len]; exact Nat.le_refl _
theorem whole_len (m k : Nat) : (whole m k).length = wn m k := dg_len _ _
theorem wn_bd {m k : Nat} (h : m ≤ 999999999999999999) : 1 ≤ wn m k ∧ wn m k + k ≤ max 18 (k + 1) := by
  have := len_max h
  have h2 := len_div m k
  unfold wn; omega
theorem sign_len (n : Int) : (sign n).length ≤ 1 := by unfold sign; split <;> decide
theorem ft_len {n : Int} {k : Nat} (h : n.natAbs ≤ 999999999999999999) (hk : k ≤ 18) : (ft n k).length ≤ 21 := by
  have h1 := wn_bd (k := k) h
  have h2 := tail_len n.natAbs k
  have h3 := sign_len n
  have h4 := whole_len n.natAbs k
  unfold ft
  rw [List.length_append, List.length_append]
  omega
theorem tail_lt (m k : Nat) : ∀ x ∈ tail m k, x < 256 := by
  intro x hx
  unfold tail at hx
  split at hx
  · cases hx
  · rw [List.mem_cons] at hx
    rcases hx with rfl | hx
    · decide
    · have := dg_lt m k x hx; omega
theorem whole_lt (m k : Nat) : ∀ x ∈ whole m k, x < 256 := fun x hx => by have := dg_lt _ _ x hx; omega
theorem ft_lt (n : Int) (k : Nat) : ∀ x ∈ ft n k, x < 256 := by
  intro x hx
  unfold ft at hx
  rw [List.mem_append, List.mem_append] at hx
  rcases hx with hx | hx | hx
  · unfold sign at hx
    split at hx
    · rw [List.mem_singleton] at hx; omega
    · cases hx
  · exact whole_lt _ _ x hx
  · exact tail_lt _ _ x hx
/-- The text from its end: j digits. -/
def pt (m k j : Nat) : List Nat := if j ≤ k then dg m j else dg (m / 10 ^ k) (j - k) ++ tail m k
theorem pt_zero (m k : Nat) : pt m k 0 = [] := if_pos (Nat.zero_le k)
theorem pt_low {m k j : Nat} (h : j < k) : pt m k (j + 1) = (48 + m / 10 ^ j % 10) :: pt m k j := by
  unfold pt; rw [if_pos (show j + 1 ≤ k from h), if_pos (Nat.le_of_lt h)]; rfl
theorem pt_at {m k : Nat} (h : 0 < k) : pt m k (k + 1) = (48 + m / 10 ^ k % 10) :: 46 :: pt m k k := by
  unfold pt; rw [if_neg (by omega), if_pos (Nat.le_refl k), show k + 1 - k = 1 from by omega, dg_one]
  unfold tail; rw [if_neg (by omega)]; rfl
theorem pt_high {m k j : Nat} (h : k < j ∨ (j = k ∧ k = 0)) : pt m k (j + 1) = (48 + m / 10 ^ j % 10) :: pt m k j := by
  rcases h with h | ⟨rfl, rfl⟩
  · unfold pt; rw [if_neg (by omega), if_neg (by omega), show j + 1 - k = (j - k) + 1 from by omega, dg, List.cons_append]
    congr 3
    rw [Nat.div_div_eq_div_mul, ← Nat.pow_add]
    congr 2; omega
  · unfold pt; rw [if_neg (by omega), if_pos (Nat.le_refl _)]
    simp [tail, dg]
theorem pt_done {m k j : Nat} (h1 : k < j) (h2 : len m ≤ j) (h3 : j = k + 1 ∨ j = len m) : pt m k j = whole m k ++ tail m k := by
  unfold pt whole wn
  rw [if_neg (by omega), len_div]
  congr 2; omega
theorem pt_len (m k j : Nat) : (pt m k j).length = if j ≤ k ∨ k = 0 then j else j + 1 := by
  unfold pt tail
  by_cases h1 : j ≤ k
  · rw [if_pos h1, if_pos (.inl h1), dg_len]
  · rw [if_neg h1]
    by_cases h2 : k = 0
    · rw [if_pos h2, if_pos (.inr h2), List.length_append, dg_len, h2]; simp
    · rw [if_neg h2, if_neg (by omega), List.length_append, dg_len, List.length_cons, dg_len]; omega
theorem row_put (l : List Nat) (n x : Nat) (h : l.length < n) : (List.replicate (n - l.length) 0 ++ l).set (n - 1 - l.length) x = List.replicate (n - (x :: l).length) 0 ++ x :: l := by
  have e : n - l.length = (n - (l.length + 1)) + 1 := by omega
  rw [List.length_cons, e, List.replicate_succ', List.append_assoc, show n - 1 - l.length = (List.replicate (n - (l.length + 1)) 0).length from by rw [List.length_replicate]; omega, List.set_append_right _ _ (Nat.le_refl _), Nat.sub_self]
  rfl
/-- A text with more zeros. -/
theorem ft_more (n : Int) (a d : Nat) : ft (n * ((10 ^ d : Nat) : Int)) (a + d) = ft n a ++ (if a = 0 ∧ 0 < d then [46] else []) ++ List.replicate d 48 := by
  have hp := pow_pos' d
  have e1 : (n * ((10 ^ d : Nat) : Int)).natAbs = n.natAbs * 10 ^ d := by rw [Int.natAbs_mul, Int.natAbs_natCast]
  have e2 : sign (n * ((10 ^ d : Nat) : Int)) = sign n := by
    unfold sign
    have : n * ((10 ^ d : Nat) : Int) < 0 ↔ n < 0 := by
      have hp' : (0 : Int) < ((10 ^ d : Nat) : Int) := by omega
      refine ⟨fun h => Int.lt_of_not_ge fun hge => ?_, fun h => Int.mul_neg_of_neg_of_pos h hp'⟩
      have := Int.mul_nonneg hge (Int.le_of_lt hp')
      omega
    simp only [this]
  have e3 : n.natAbs * 10 ^ d / 10 ^ (a + d) = n.natAbs / 10 ^ a := by rw [Nat.pow_add, Nat.mul_div_mul_right _ _ hp]
  have e4 : whole (n.natAbs * 10 ^ d) (a + d) = whole n.natAbs a := by unfold whole wn; rw [e3]
  unfold ft
  rw [e1, e2, e4, List.append_assoc, List.append_assoc, List.append_assoc]
  congr 2
  unfold tail
  rw [dg_mul]
  by_cases ha : a = 0
  · subst ha
    by_cases hd : 0 < d
    · rw [if_neg (by omega), if_pos rfl, if_pos ⟨rfl, hd⟩]; rfl
    · obtain rfl : d = 0 := by omega
      simp
  · rw [if_neg (by omega), if_neg ha, if_neg (by omega)]; rfl
end Go.DC
