/- Numbers of variable length: the plain lists and numbers behind the walks. -/
import Derived.Test.YtjbkeipagdmlpaaBase
namespace Go.VarM
open Go.RowKit Go.VB

/-- the encoding of a number -/
def putL (n : Nat) : List UInt8 :=
  if n < 128 then [UInt8.ofNat n] else UInt8.ofNat (n % 128 + 128) :: putL (n / 128)
termination_by n
decreasing_by omega
theorem putL_lt {n : Nat} (h : n < 128) : putL n = [UInt8.ofNat n] := by rw [putL]; simp [h]
theorem putL_ge {n : Nat} (h : ¬ n < 128) : putL n = UInt8.ofNat (n % 128 + 128) :: putL (n / 128) := by rw [putL]; simp [h]
theorem putL_len {n : Nat} : ∀ k, n < 128 ^ k → 0 < k → (putL n).length ≤ k := by
  intro k
  induction k generalizing n with
  | zero => intro _ h; omega
  | succ k ih =>
    intro h _
    by_cases hn : n < 128
    · rw [putL_lt hn]; simp
    · rw [putL_ge hn]
      have hk : 0 < k := by
        rcases Nat.eq_zero_or_pos k with h0 | h0
        · subst h0; simp at h; omega
        · exact h0
      have : n / 128 < 128 ^ k := by rw [Nat.div_lt_iff_lt_mul (by omega)]; rw [Nat.pow_succ] at h; exact h
      have := ih this hk
      simp; omega
theorem putL_len10 {n : Nat} (h : n < 18446744073709551616) : (putL n).length ≤ 10 := putL_len 10 (by simpa using Nat.lt_of_lt_of_le h (by decide)) (by decide)
theorem putL_pos (n : Nat) : 0 < (putL n).length := by
  by_cases h : n < 128
  · rw [putL_lt h]; simp
  · rw [putL_ge h]; simp

theorem and127 {x : Nat} (h : x < 18446744073709551616) : bits .and .u64 (x : Int) 127 = (x : Int) % 128 := by
  have := u64_and_nat x 127 h (by omega)
  rw [nat_mask7] at this; exact this
theorem and127b {x : Nat} (h : x < 256) : bits .and .u8 (x : Int) 127 = (x : Int) % 128 := by
  have := u8_and_nat x 127 h (by omega)
  rw [nat_mask7] at this; exact this
theorem or128 (x : Nat) : bits .or .u8 ((x : Int) % 128) 128 = (x : Int) % 128 + 128 := by
  have := u8_or_nat (x % 128) 128 (by omega) (by omega)
  rw [Nat.or_comm, nat_join 7 128 (x % 128) (by decide) (by omega), Nat.add_comm] at this; exact this
theorem or128' (x : Nat) : bits .or .u8 ((x : Int) % 256) 128 = (x : Int) % 128 + 128 := by
  have h := u8_or_nat (x % 256) 128 (by omega) (by omega)
  have e : x % 256 ||| 128 = x % 128 + 128 := by
    apply Nat.eq_of_testBit_eq
    intro i
    have h7 : x % 128 + 128 = 128 ||| x % 128 := (nat_join 7 128 (x % 128) (by decide) (by omega)).symm ▸ Nat.add_comm _ _
    rw [h7, Nat.testBit_or, Nat.testBit_or, show (256 : Nat) = 2 ^ 8 from rfl, show (128 : Nat) = 2 ^ 7 from rfl, Nat.testBit_mod_two_pow, Nat.testBit_mod_two_pow, Nat.testBit_two_pow]
    by_cases h1 : i = 7
    · subst h1; simp
    · by_cases h2 : i < 7
      · simp [h2, show i < 8 from by omega, show 7 ≠ i from by omega]
      · simp [h2, show ¬ i < 8 from by omega, show 7 ≠ i from by omega]
  rw [e] at h; exact h
theorem and128_lo {b : Nat} (h : b < 128) : bits .and .u8 (b : Int) 128 = 0 := by
  have := u8_and_nat b 128 (by omega) (by omega)
  rw [nat_bit 7 b, show b / 2 ^ 7 = 0 from by omega] at this; exact this
theorem and128_hi {b : Nat} (h : 128 ≤ b) (h' : b < 256) : bits .and .u8 (b : Int) 128 = 128 := by
  have := u8_and_nat b 128 (by omega) (by omega)
  rw [nat_bit 7 b, show b / 2 ^ 7 = 1 from by omega] at this; exact this

/-! reading -/
/-- The number of bytes up to the first one below 128, within the first f. -/
def sizeL : Nat → List UInt8 → Option Nat
  | 0, _ => none
  | _ + 1, [] => none
  | f + 1, b :: r => if b.toNat < 128 then some 1 else (sizeL f r).map (· + 1)
def joinL : List UInt8 → Nat
  | [] => 0
  | b :: r => b.toNat % 128 + 128 * joinL r
def esL (l : List UInt8) : Nat × Nat := match sizeL 10 l with
  | some n => (n, 0)
  | none => if l.length < 10 then (0, 10) else (0, 8)
/-- number, bytes read, error -/
def getL (l : List UInt8) : Nat × Nat × Nat := match sizeL 10 l with
  | none => if l.length < 10 then (0, 0, 10) else (0, 0, 8)
  | some n => if n = 10 ∧ 1 < (l.getD (n - 1) 0).toNat then (0, 0, 8) else if 1 < n ∧ (l.getD (n - 1) 0).toNat = 0 then (0, 0, 2) else (joinL (l.take n), n, 0)
/-- what Get returns -/
def getR (s : ByteArray) (i : Int) : Nat × Int × Nat :=
  if i < 0 ∨ (s.size : Int) < i then (0, 0, 4)
  else if (getL (s.data.toList.drop i.toNat)).2.2 = 0 then ((getL (s.data.toList.drop i.toNat)).1, i + (getL (s.data.toList.drop i.toNat)).2.1, 0)
  else (0, 0, (getL (s.data.toList.drop i.toNat)).2.2)

theorem sizeL_hit : ∀ (f : Nat) (l : List UInt8) (k : Nat), k < f → k < l.length → (∀ j, j < k → 128 ≤ (l.getD j 0).toNat) → (l.getD k 0).toNat < 128 → sizeL f l = some (k + 1)
  | 0, _, _, h, _, _, _ => by omega
  | f + 1, [], k, _, h, _, _ => by simp at h
  | f + 1, b :: r, k, hf, hl, hall, hk => by
    unfold sizeL
    cases k with
    | zero => simp at hk; simp [hk]
    | succ k =>
      have h0 := hall 0 (by omega)
      simp at h0
      rw [if_neg (by omega), sizeL_hit f r k (by omega) (by simpa using hl) (fun j hj => by simpa using hall (j + 1) (by omega)) (by simpa using hk)]
      rfl
theorem sizeL_none : ∀ (f : Nat) (l : List UInt8), (∀ j, j < f → j < l.length → 128 ≤ (l.getD j 0).toNat) → sizeL f l = none
  | 0, _, _ => rfl
  | f + 1, [], _ => rfl
  | f + 1, b :: r, hall => by
    unfold sizeL
    have h0 := hall 0 (by omega) (by simp)
    simp at h0
    rw [if_neg (by omega), sizeL_none f r (fun j hj hl => by simpa using hall (j + 1) (by omega) (by simpa using hl))]
    rfl
theorem sizeL_some : ∀ (f : Nat) (l : List UInt8) (n : Nat), sizeL f l = some n → 1 ≤ n ∧ n ≤ f ∧ n ≤ l.length ∧ (∀ j, j < n - 1 → 128 ≤ (l.getD j 0).toNat) ∧ (l.getD (n - 1) 0).toNat < 128
  | 0, _, _, h => by simp [sizeL] at h
  | f + 1, [], _, h => by simp [sizeL] at h
  | f + 1, b :: r, n, h => by
    unfold sizeL at h
    by_cases hb : b.toNat < 128
    · rw [if_pos hb] at h; cases h; simp [hb]
    · rw [if_neg hb] at h
      obtain ⟨m, hm, rfl⟩ := Option.map_eq_some_iff.1 h
      obtain ⟨h1, h2, h3, h4, h5⟩ := sizeL_some f r m hm
      refine ⟨by omega, by omega, by simp; omega, ?_, ?_⟩
      · intro j hj
        cases j with
        | zero => simp; omega
        | succ j => simpa using h4 j (by omega)
      · obtain ⟨m', rfl⟩ : ∃ m', m = m' + 1 := ⟨m - 1, by omega⟩
        simpa using h5
theorem esL_some {l : List UInt8} {n : Nat} (h : sizeL 10 l = some n) : esL l = (n, 0) := by unfold esL; rw [h]
theorem esL_short {l : List UInt8} (h : sizeL 10 l = none) (hl : l.length < 10) : esL l = (0, 10) := by unfold esL; rw [h]; simp [hl]
theorem esL_over {l : List UInt8} (h : sizeL 10 l = none) (hl : ¬ l.length < 10) : esL l = (0, 8) := by unfold esL; rw [h]; simp [hl]

theorem joinL_lt : ∀ (l : List UInt8), joinL l < 128 ^ l.length
  | [] => by simp [joinL]
  | b :: r => by
    have := joinL_lt r
    simp only [joinL, List.length_cons, Nat.pow_succ]
    omega
theorem joinL_append : ∀ (a b : List UInt8), joinL (a ++ b) = joinL a + 128 ^ a.length * joinL b
  | [], b => by simp [joinL]
  | c :: a, b => by
    simp only [List.cons_append, joinL, joinL_append a b, List.length_cons, Nat.pow_succ]
    rw [Nat.mul_add, ← Nat.mul_assoc 128, Nat.mul_comm 128 (128 ^ a.length)]
    omega
theorem join_step (s : ByteArray) (k : Nat) (hk : k + 1 ≤ s.size) (h : joinL s.data.toList < 18446744073709551616) :
    joinL (s.data.toList.drop (k + 1)) * 128 + bN s k % 128 < 18446744073709551616 ∧ joinL (s.data.toList.drop k) = joinL (s.data.toList.drop (k + 1)) * 128 + bN s k % 128 := by
  have e : joinL (s.data.toList.drop k) = joinL (s.data.toList.drop (k + 1)) * 128 + bN s k % 128 := by
    have hl : k < s.data.toList.length := by rw [size_list]; omega
    rw [List.drop_eq_getElem_cons hl]
    simp only [joinL, bN]
    rw [List.getD_eq_getElem?_getD, List.getElem?_eq_getElem hl]
    simp only [Option.getD_some]
    omega
  refine ⟨?_, e⟩
  rw [← e]
  refine Nat.lt_of_le_of_lt ?_ h
  have := joinL_append (s.data.toList.take k) (s.data.toList.drop k)
  rw [List.take_append_drop] at this
  rw [this]
  have hp : 1 ≤ 128 ^ (s.data.toList.take k).length := Nat.pow_pos (by decide)
  exact Nat.le_trans (Nat.le_mul_of_pos_left _ hp) (Nat.le_add_left _ _)
theorem or_join (J b : Nat) (h : J * 128 + b % 128 < 18446744073709551616) : bits .or .u64 ((J : Int) * 128) ((b : Int) % 128) = (J : Int) * 128 + (b : Int) % 128 := by
  have := u64_or_nat (J * 128) (b % 128) (by omega) (by omega)
  rw [nat_join 7 (J * 128) (b % 128) (by omega) (by omega)] at this
  simpa using this
theorem pow_128 (n : Nat) : 128 ^ n = 2 ^ (7 * n) := by rw [Nat.pow_mul]
theorem joinL_bound {l : List UInt8} {n : Nat} (h : sizeL 10 l = some n) (hov : ¬ (n = 10 ∧ 1 < (l.getD (n - 1) 0).toNat)) : joinL (l.take n) < 18446744073709551616 := by
  obtain ⟨h1, h2, h3, _, _⟩ := sizeL_some 10 l n h
  by_cases hn : n = 10
  · subst hn
    have hl := joinL_append (l.take 9) ((l.take 10).drop 9)
    have e : l.take 9 = (l.take 10).take 9 := by rw [List.take_take]; rfl
    rw [e, List.take_append_drop] at hl
    have h9 := joinL_lt ((l.take 10).take 9)
    have hlen : ((l.take 10).take 9).length = 9 := by simp; omega
    rw [hlen] at h9 hl
    have hd : (l.take 10).drop 9 = [l.getD 9 0] := by
      rw [List.drop_eq_getElem_cons (by simp; omega), List.drop_eq_nil_of_le (by simp; omega)]
      simp [List.getElem_take, List.getD_eq_getElem?_getD, List.getElem?_eq_getElem (show 9 < l.length by omega)]
    rw [hd] at hl
    simp only [joinL] at hl
    have hb : (l.getD 9 0).toNat ≤ 1 := by
      have : ¬ 1 < (l.getD (10 - 1) 0).toNat := fun h => hov ⟨rfl, h⟩
      simpa using this
    rw [hl, show (128 : Nat) ^ 9 = 9223372036854775808 from by decide] at *
    omega
  · have := joinL_lt (l.take n)
    rw [List.length_take, Nat.min_eq_left h3] at this
    refine Nat.lt_of_lt_of_le this ?_
    rw [pow_128]
    exact Nat.le_trans (Nat.pow_le_pow_right (by decide) (show 7 * n ≤ 64 by omega)) (by decide)

/-! signs -/
/-- x xor all ones. -/
theorem nat_xor_ones {x : Nat} (h : x < 18446744073709551616) : x ^^^ 18446744073709551615 = 18446744073709551615 - x := by
  have e : (BitVec.ofNat 64 x ^^^ BitVec.allOnes 64).toNat = 18446744073709551615 - x := by
    rw [BitVec.xor_allOnes, BitVec.toNat_not, BitVec.toNat_ofNat, Nat.mod_eq_of_lt (by omega)]
  rw [BitVec.toNat_xor, BitVec.toNat_ofNat, BitVec.toNat_allOnes, Nat.mod_eq_of_lt (by omega)] at e
  exact e
theorem u64_xor_ones {x : Nat} (h : x < 18446744073709551616) : bits .xor .u64 (x : Int) 18446744073709551615 = 18446744073709551615 - (x : Int) := by
  have := u64_xor_nat x 18446744073709551615 h (by omega)
  rw [nat_xor_ones h] at this
  have e : ((18446744073709551615 - x : Nat) : Int) = 18446744073709551615 - (x : Int) := by omega
  rw [← e]; exact this
theorem u64_xor_zero {x : Nat} (h : x < 18446744073709551616) : bits .xor .u64 (x : Int) 0 = (x : Int) := by
  have := u64_xor_nat x 0 h (by omega)
  rw [Nat.xor_zero] at this; exact this
def zigN (a : Int) : Int := if a < 0 then -2 * a - 1 else 2 * a
def zagN (v : Int) : Int := if v % 2 = 1 then -(v / 2) - 1 else v / 2
theorem zig_eq {a : Int} (h1 : -9223372036854775808 ≤ a) (h2 : a ≤ 9223372036854775807) :
    bits .xor .u64 (IntKind.u64.wrap (IntKind.u64.wrap a * 2)) (IntKind.u64.wrap (a / 9223372036854775808)) = zigN a := by
  unfold zigN
  by_cases h : a < 0
  · rw [if_pos h, show a / 9223372036854775808 = -1 from by omega, show IntKind.u64.wrap (-1) = 18446744073709551615 from by rw [IntKind.wrap_u64]; rfl]
    have e : IntKind.u64.wrap (IntKind.u64.wrap a * 2) = ((a * 2 + 18446744073709551616).toNat : Int) := by rw [IntKind.wrap_u64, IntKind.wrap_u64]; omega
    rw [e, u64_xor_ones (by omega)]; omega
  · rw [if_neg h, show a / 9223372036854775808 = 0 from by omega, show IntKind.u64.wrap 0 = 0 from by rw [IntKind.wrap_u64]; rfl]
    have e : IntKind.u64.wrap (IntKind.u64.wrap a * 2) = ((a * 2).toNat : Int) := by rw [IntKind.wrap_u64, IntKind.wrap_u64]; omega
    rw [e, u64_xor_zero (by omega)]; omega
theorem zag_eq {v : Int} (h1 : 0 ≤ v) (h2 : v ≤ 18446744073709551615) :
    bits .xor .i64 (v / 2) (wrap64 (-wrap64 (bits .and .u64 v 1))) = zagN v := by
  rw [show v / 2 = wrap64 (v / 2) from by unfold wrap64; omega]
  obtain ⟨n, rfl⟩ := Int.eq_ofNat_of_zero_le h1
  have ha : bits .and .u64 (n : Int) 1 = (n : Int) % 2 := by
    have := u64_and_nat n 1 (by omega) (by omega)
    rw [nat_mask1] at this; exact this
  rw [ha]
  unfold zagN
  by_cases h : (n : Int) % 2 = 1
  · rw [if_pos h, h]
    have e1 : wrap64 (-wrap64 1) = -1 := by unfold wrap64; rfl
    have e2 : wrap64 ((n : Int) / 2) = ((n / 2 : Nat) : Int) := by unfold wrap64; omega
    rw [e1, e2]
    show IntKind.i64.wrap ((BitVec.ofInt 64 ((n / 2 : Nat) : Int) ^^^ BitVec.ofInt 64 (-1)).toNat : Int) = _
    rw [show BitVec.ofInt 64 (-1) = BitVec.allOnes 64 from by decide, BitVec.xor_allOnes, BitVec.toNat_not, BitVec.ofInt_natCast, BitVec.toNat_ofNat, IntKind.wrap_i64]
    omega
  · rw [if_neg h, show (n : Int) % 2 = 0 from by omega]
    have e1 : wrap64 (-wrap64 0) = 0 := by unfold wrap64; rfl
    have e2 : wrap64 ((n : Int) / 2) = ((n / 2 : Nat) : Int) := by unfold wrap64; omega
    rw [e1, e2]
    show IntKind.i64.wrap ((BitVec.ofInt 64 ((n / 2 : Nat) : Int) ^^^ BitVec.ofInt 64 0).toNat : Int) = _
    rw [show BitVec.ofInt 64 0 = 0#64 from by decide, BitVec.xor_zero, BitVec.ofInt_natCast, BitVec.toNat_ofNat, IntKind.wrap_i64]
    omega
theorem zag_zig (a : Int) : zagN (zigN a) = a := by unfold zagN zigN; split <;> split <;> omega
theorem zig_zag {v : Int} (h : 0 ≤ v) : zigN (zagN v) = v := by unfold zagN zigN; split <;> split <;> omega
theorem zig_bd {a : Int} (h1 : -9223372036854775808 ≤ a) (h2 : a ≤ 9223372036854775807) : 0 ≤ zigN a ∧ zigN a ≤ 18446744073709551615 := by unfold zigN; split <;> omega
theorem zag_bd {v : Int} (h1 : 0 ≤ v) (h2 : v ≤ 18446744073709551615) : -9223372036854775808 ≤ zagN v ∧ zagN v ≤ 9223372036854775807 := by unfold zagN; split <;> omega
theorem zig_odd (a : Int) : (zigN a % 2 == 1) = decide (a < 0) := by
  unfold zigN
  by_cases h : a < 0
  · simp [h]; omega
  · simp [h]

/-! what is put is read back -/
theorem putL_facts : ∀ (n : Nat), (∀ j, j < (putL n).length - 1 → 128 ≤ ((putL n).getD j 0).toNat) ∧ ((putL n).getD ((putL n).length - 1) 0).toNat < 128 ∧
    (1 < (putL n).length → 0 < ((putL n).getD ((putL n).length - 1) 0).toNat) ∧ joinL (putL n) = n ∧ ((putL n).getD ((putL n).length - 1) 0).toNat * 128 ^ ((putL n).length - 1) ≤ n := by
  intro n
  induction n using Nat.strongRecOn with
  | _ n ih =>
    by_cases h : n < 128
    · rw [putL_lt h]
      have e : (UInt8.ofNat n).toNat = n := by rw [UInt8.toNat_ofNat', Nat.mod_eq_of_lt (by omega)]
      simp only [List.length_singleton, Nat.sub_self, List.getD_cons_zero, e, joinL, Nat.pow_zero]
      refine ⟨fun j hj => by omega, h, fun h => by omega, by omega, by omega⟩
    · rw [putL_ge h]
      obtain ⟨i1, i2, i3, i4, i5⟩ := ih (n / 128) (by omega)
      have hp := putL_pos (n / 128)
      have e : (UInt8.ofNat (n % 128 + 128)).toNat = n % 128 + 128 := by rw [UInt8.toNat_ofNat', Nat.mod_eq_of_lt (by omega)]
      obtain ⟨m, hm⟩ : ∃ m, (putL (n / 128)).length = m + 1 := ⟨(putL (n / 128)).length - 1, by omega⟩
      simp only [List.length_cons, hm, Nat.add_sub_cancel, List.getD_cons_succ]
      simp only [hm, Nat.add_sub_cancel] at i1 i2 i3 i5
      refine ⟨?_, i2, ?_, ?_, ?_⟩
      · intro j hj
        cases j with
        | zero => simp only [List.getD_cons_zero, e]; omega
        | succ j => simpa using i1 j (by omega)
      · intro _
        by_cases hm1 : 1 < m + 1
        · exact i3 hm1
        · have : m = 0 := by omega
          subst this
          have h128 : n / 128 < 128 := by
            by_cases h2 : n / 128 < 128
            · exact h2
            · have := putL_ge h2
              rw [this] at hm; simp only [List.length_cons] at hm
              have := putL_pos (n / 128 / 128); omega
          rw [putL_lt h128]
          simp only [List.getD_cons_zero, UInt8.toNat_ofNat']
          rw [Nat.mod_eq_of_lt (by omega)]; omega
      · simp only [joinL, e, i4]; omega
      · rw [Nat.pow_succ, ← Nat.mul_assoc]; omega
theorem getD_append_lt {l r : List UInt8} {j : Nat} (h : j < l.length) : (l ++ r).getD j 0 = l.getD j 0 := by
  rw [List.getD_eq_getElem?_getD, List.getD_eq_getElem?_getD, List.getElem?_append_left h]
theorem getL_put {n : Nat} (h : n < 18446744073709551616) (rest : List UInt8) : getL (putL n ++ rest) = (n, (putL n).length, 0) := by
  obtain ⟨f1, f2, f3, f4, f5⟩ := putL_facts n
  have h10 := putL_len10 h
  have hp := putL_pos n
  have hs : sizeL 10 (putL n ++ rest) = some ((putL n).length - 1 + 1) := sizeL_hit 10 _ _ (by omega) (by rw [List.length_append]; omega)
    (fun j hj => by rw [getD_append_lt (by omega)]; exact f1 j hj) (by rw [getD_append_lt (by omega)]; exact f2)
  rw [show (putL n).length - 1 + 1 = (putL n).length from by omega] at hs
  unfold getL
  rw [hs]
  simp only [getD_append_lt (l := putL n) (r := rest) (j := (putL n).length - 1) (by omega)]
  rw [if_neg, if_neg, List.take_left, f4]
  · rintro ⟨a, b⟩; have := f3 a; omega
  · rintro ⟨a, b⟩
    rw [a] at f5 b
    rw [show (128 : Nat) ^ (10 - 1) = 9223372036854775808 from by decide] at f5
    omega
theorem getL_shortP {l : List UInt8} (hl : l.length < 10) (hall : ∀ j, j < l.length → 128 ≤ (l.getD j 0).toNat) : getL l = (0, 0, 10) := by
  unfold getL
  rw [sizeL_none 10 l (fun j _ h2 => hall j h2)]
  simp [hl]
theorem getL_prefix {n : Nat} (h : n < 18446744073709551616) {k : Nat} (hk : k < (putL n).length) : getL ((putL n).take k) = (0, 0, 10) := by
  obtain ⟨f1, _⟩ := putL_facts n
  have h10 := putL_len10 h
  refine getL_shortP (by rw [List.length_take]; omega) (fun j hj => ?_)
  rw [List.length_take] at hj
  rw [List.getD_eq_getElem?_getD, List.getElem?_take, if_pos (by omega), ← List.getD_eq_getElem?_getD]
  exact f1 j (by omega)
theorem putL_mono : ∀ (b a : Nat), a ≤ b → (putL a).length ≤ (putL b).length := by
  intro b
  induction b using Nat.strongRecOn with
  | _ b ih =>
    intro a hab
    by_cases ha : a < 128
    · rw [putL_lt ha]; have := putL_pos b; simp; omega
    · rw [putL_ge ha, putL_ge (show ¬ b < 128 by omega)]
      have := ih (b / 128) (by omega) (a / 128) (by omega)
      simp; omega
theorem putL_join : ∀ (l : List UInt8), 0 < l.length → (∀ j, j < l.length - 1 → 128 ≤ (l.getD j 0).toNat) → (l.getD (l.length - 1) 0).toNat < 128 →
    (1 < l.length → 0 < (l.getD (l.length - 1) 0).toNat) → putL (joinL l) = l
  | [], h, _, _, _ => by simp at h
  | [b], _, _, h, _ => by
    simp only [List.length_singleton, Nat.sub_self, List.getD_cons_zero] at h
    simp only [joinL]
    rw [Nat.mul_zero, Nat.add_zero, Nat.mod_eq_of_lt h, putL_lt h, UInt8.ofNat_toNat]
  | b :: c :: r, _, hall, hlast, hpos => by
    have ih := putL_join (c :: r) (by simp) (fun j hj => by simpa using hall (j + 1) (by simp at hj ⊢; omega)) (by simpa using hlast)
      (fun h => by simpa using hpos (by simp))
    have hb := hall 0 (by simp)
    simp only [List.getD_cons_zero] at hb
    have hge : 1 ≤ joinL (c :: r) := by
      rcases Nat.eq_zero_or_pos (joinL (c :: r)) with h0 | h0
      · rw [h0, putL_lt (by decide)] at ih
        have e : c :: r = [0] := ih.symm.trans rfl
        rw [e] at hpos
        have := hpos (by simp)
        simp at this
      · exact h0
    have hbl := UInt8.toNat_lt b
    have hj : joinL (b :: c :: r) = b.toNat % 128 + 128 * joinL (c :: r) := rfl
    rw [hj, putL_ge (by omega), show (b.toNat % 128 + 128 * joinL (c :: r)) / 128 = joinL (c :: r) from by omega, ih,
      show (b.toNat % 128 + 128 * joinL (c :: r)) % 128 + 128 = b.toNat from by omega, UInt8.ofNat_toNat]
theorem getL_ok {l : List UInt8} (h : (getL l).2.2 = 0) : 1 ≤ (getL l).2.1 ∧ (getL l).2.1 ≤ l.length ∧ putL (getL l).1 = l.take (getL l).2.1 ∧ (getL l).1 < 18446744073709551616 := by
  rcases hs : sizeL 10 l with _ | n
  · exfalso
    unfold getL at h; rw [hs] at h
    by_cases h10 : l.length < 10
    · simp [h10] at h
    · simp [h10] at h
  · obtain ⟨h1, h2, h3, h4, h5⟩ := sizeL_some 10 l n hs
    unfold getL at h ⊢
    rw [hs] at h ⊢
    simp only at h ⊢
    by_cases c1 : n = 10 ∧ 1 < (l.getD (n - 1) 0).toNat
    · rw [if_pos c1] at h; simp at h
    · by_cases c2 : 1 < n ∧ (l.getD (n - 1) 0).toNat = 0
      · rw [if_neg c1, if_pos c2] at h; simp at h
      · rw [if_neg c1, if_neg c2]
        refine ⟨h1, h3, ?_, joinL_bound hs c1⟩
        have hg : ∀ j, j < n → (l.take n).getD j 0 = l.getD j 0 := fun j hj => by
          rw [List.getD_eq_getElem?_getD, List.getElem?_take, if_pos hj, ← List.getD_eq_getElem?_getD]
        have hl : (l.take n).length = n := by rw [List.length_take]; omega
        refine putL_join _ (by omega) ?_ ?_ ?_
        · intro j hj; rw [hl] at hj; rw [hg j (by omega)]; exact h4 j hj
        · rw [hl, hg _ (by omega)]; exact h5
        · intro hn; rw [hl] at hn ⊢; rw [hg _ (by omega)]; omega
theorem getL_err {l : List UInt8} (h : (getL l).2.2 ≠ 0) : (getL l).1 = 0 ∧ (getL l).2.1 = 0 := by
  unfold getL at h ⊢
  rcases hs : sizeL 10 l with _ | n
  · by_cases h10 : l.length < 10 <;> simp [h10]
  · rw [hs] at h
    simp only at h ⊢
    by_cases c1 : n = 10 ∧ 1 < (l.getD (n - 1) 0).toNat
    · rw [if_pos c1]; exact ⟨rfl, rfl⟩
    · by_cases c2 : 1 < n ∧ (l.getD (n - 1) 0).toNat = 0
      · rw [if_neg c1, if_pos c2]; exact ⟨rfl, rfl⟩
      · rw [if_neg c1, if_neg c2] at h; exact absurd rfl h
end Go.VarM
