/- Several texts in one: VarMath VarWalks VarGet VarRef. -/
import Derived.Test.YtbolbbngncnecaaGreatG0
/- Numbers of variable length: the plain lists and numbers behind the walks. -/
namespace Go.VarM
open Go.RowKit Go.VB

/-- the encoding of a number -/
def putL (n : Nat) : List UInt8 :=
  if n < 128 then [UInt8.ofNat n] else UInt8.ofNat (n % 128 + 128) :: putL (n / 128)
termination_by n
decreasing_by omega
theorem putL_lt {n : Nat} (h : n < 128) : putL n = [UInt8.ofNat n] := by rw [putL]; simp [h]
theorem putL_ge {n : Nat} (h : ¬ n < 128) : putL n = UInt8.ofNat (n % 128 + 128) :: putL (n / 128) := by rw [putL]; simp [h]
theorem putL_len {n : Nat} : ∀ k, n < 128 ^ k → 0 < k → (putL n).length ≤ k := by
  intro k
  induction k generalizing n with
  | zero => intro _ h; omega
  | succ k ih =>
    intro h _
    by_cases hn : n < 128
    · rw [putL_lt hn]; simp
    · rw [putL_ge hn]
      have hk : 0 < k := by
        rcases Nat.eq_zero_or_pos k with h0 | h0
        · subst h0; simp at h; omega
        · exact h0
      have : n / 128 < 128 ^ k := by rw [Nat.div_lt_iff_lt_mul (by omega)]; rw [Nat.pow_succ] at h; exact h
      have := ih this hk
      simp; omega
theorem putL_len10 {n : Nat} (h : n < 18446744073709551616) : (putL n).length ≤ 10 := putL_len 10 (by simpa using Nat.lt_of_lt_of_le h (by decide)) (by decide)
theorem putL_pos (n : Nat) : 0 < (putL n).length := by
  by_cases h : n < 128
  · rw [putL_lt h]; simp
  · rw [putL_ge h]; simp

theorem and127 {x : Nat} (h : x < 18446744073709551616) : bits .and .u64 (x : Int) 127 = (x : Int) % 128 := by
  have := u64_and_nat x 127 h (by omega)
  rw [nat_mask7] at this; exact this
theorem and127b {x : Nat} (h : x < 256) : bits .and .u8 (x : Int) 127 = (x : Int) % 128 := by
  have := u8_and_nat x 127 h (by omega)
  rw [nat_mask7] at this; exact this
theorem or128 (x : Nat) : bits .or .u8 ((x : Int) % 128) 128 = (x : Int) % 128 + 128 := by
  have := u8_or_nat (x % 128) 128 (by omega) (by omega)
  rw [Nat.or_comm, nat_join 7 128 (x % 128) (by decide) (by omega), Nat.add_comm] at this; exact this
theorem or128' (x : Nat) : bits .or .u8 ((x : Int) % 256) 128 = (x : Int) % 128 + 128 := by
  have h := u8_or_nat (x % 256) 128 (by omega) (by omega)
  have e : x % 256 ||| 128 = x % 128 + 128 := by
    apply Nat.eq_of_testBit_eq
    intro i
    have h7 : x % 128 + 128 = 128 ||| x % 128 := (nat_join 7 128 (x % 128) (by decide) (by omega)).symm ▸ Nat.add_comm _ _
    rw [h7, Nat.testBit_or, Nat.testBit_or, show (256 : Nat) = 2 ^ 8 from rfl, show (128 : Nat) = 2 ^ 7 from rfl, Nat.testBit_mod_two_pow, Nat.testBit_mod_two_pow, Nat.testBit_two_pow]
    by_cases h1 : i = 7
    · subst h1; simp
    · by_cases h2 : i < 7
      · simp [h2, show i < 8 from by omega, show 7 ≠ i from by omega]
      · simp [h2, show ¬ i < 8 from by omega, show 7 ≠ i from by omega]
  rw [e] at h; exact h
theorem and128_lo {b : Nat} (h : b < 128) : bits .and .u8 (b : Int) 128 = 0 := by
  have := u8_and_nat b 128 (by omega) (by omega)
  rw [nat_bit 7 b, show b / 2 ^ 7 = 0 from by omega] at this; exact this
theorem and128_hi {b : Nat} (h : 128 ≤ b) (h' : b < 256) : bits .and .u8 (b : Int) 128 = 128 := by
  have := u8_and_nat b 128 (by omega) (by omega)
  rw [nat_bit 7 b, show b / 2 ^ 7 = 1 from by omega] at this; exact this

/-! reading -/
/-- The number of bytes up to the first one below 128, within the first f. -/
def sizeL : Nat → List UInt8 → Option Nat
  | 0, _ => none
  | _ + 1, [] => none
  | f + 1, b :: r => if b.toNat < 128 then some 1 else (sizeL f r).map (· + 1)
def joinL : List UInt8 → Nat
  | [] => 0
  | b :: r => b.toNat % 128 + 128 * joinL r
def esL (l : List UInt8) : Nat × Nat := match sizeL 10 l with
  | some n => (n, 0)
  | none => if l.length < 10 then (0, 10) else (0, 8)
/-- number, bytes read, error -/
def getL (l : List UInt8) : Nat × Nat × Nat := match sizeL 10 l with
  | none => if l.length < 10 then (0, 0, 10) else (0, 0, 8)
  | some n => if n = 10 ∧ 1 < (l.getD (n - 1) 0).toNat then (0, 0, 8) else if 1 < n ∧ (l.getD (n - 1) 0).toNat = 0 then (0, 0, 2) else (joinL (l.take n), n, 0)
/-- what Get returns -/
def getR (s : ByteArray) (i : Int) : Nat × Int × Nat :=
  if i < 0 ∨ (s.size : Int) < i then (0, 0, 4)
  else if (getL (s.data.toList.drop i.toNat)).2.2 = 0 then ((getL (s.data.toList.drop i.toNat)).1, i + (getL (s.data.toList.drop i.toNat)).2.1, 0)
  else (0, 0, (getL (s.data.toList.drop i.toNat)).2.2)

theorem sizeL_hit : ∀ (f : Nat) (l : List UInt8) (k : Nat), k < f → k < l.length → (∀ j, j < k → 128 ≤ (l.getD j 0).toNat) → (l.getD k 0).toNat < 128 → sizeL f l = some (k + 1)
  | 0, _, _, h, _, _, _ => by omega
  | f + 1, [], k, _, h, _, _ => by simp at h
  | f + 1, b :: r, k, hf, hl, hall, hk => by
    unfold sizeL
    cases k with
    | zero => simp at hk; simp [hk]
    | succ k =>
      have h0 := hall 0 (by omega)
      simp at h0
      rw [if_neg (by omega), sizeL_hit f r k (by omega) (by simpa using hl) (fun j hj => by simpa using hall (j + 1) (by omega)) (by simpa using hk)]
      rfl
theorem sizeL_none : ∀ (f : Nat) (l : List UInt8), (∀ j, j < f → j < l.length → 128 ≤ (l.getD j 0).toNat) → sizeL f l = none
  | 0, _, _ => rfl
  | f + 1, [], _ => rfl
  | f + 1, b :: r, hall => by
    unfold sizeL
    have h0 := hall 0 (by omega) (by simp)
    simp at h0
    rw [if_neg (by omega), sizeL_none f r (fun j hj hl => by simpa using hall (j + 1) (by omega) (by simpa using hl))]
    rfl
theorem sizeL_some : ∀ (f : Nat) (l : List UInt8) (n : Nat), sizeL f l = some n → 1 ≤ n ∧ n ≤ f ∧ n ≤ l.length ∧ (∀ j, j < n - 1 → 128 ≤ (l.getD j 0).toNat) ∧ (l.getD (n - 1) 0).toNat < 128
  | 0, _, _, h => by simp [sizeL] at h
  | f + 1, [], _, h => by simp [sizeL] at h
  | f + 1, b :: r, n, h => by
    unfold sizeL at h
    by_cases hb : b.toNat < 128
    · rw [if_pos hb] at h; cases h; simp [hb]
    · rw [if_neg hb] at h
      obtain ⟨m, hm, rfl⟩ := Option.map_eq_some_iff.1 h
      obtain ⟨h1, h2, h3, h4, h5⟩ := sizeL_some f r m hm
      refine ⟨by omega, by omega, by simp; omega, ?_, ?_⟩
      · intro j hj
        cases j with
        | zero => simp; omega
        | succ j => simpa using h4 j (by omega)
      · obtain ⟨m', rfl⟩ : ∃ m', m = m' + 1 := ⟨m - 1, by omega⟩
        simpa using h5
theorem esL_some {l : List UInt8} {n : Nat} (h : sizeL 10 l = some n) : esL l = (n, 0) := by unfold esL; rw [h]
theorem esL_short {l : List UInt8} (h : sizeL 10 l = none) (hl : l.length < 10) : esL l = (0, 10) := by unfold esL; rw [h]; simp [hl]
theorem esL_over {l : List UInt8} (h : sizeL 10 l = none) (hl : ¬ l.length < 10) : esL l = (0, 8) := by unfold esL; rw [h]; simp [hl]

theorem joinL_lt : ∀ (l : List UInt8), joinL l < 128 ^ l.length
  | [] => by simp [joinL]
  | b :: r => by
    have := joinL_lt r
    simp only [joinL, List.length_cons, Nat.pow_succ]
    omega
theorem joinL_append : ∀ (a b : List UInt8), joinL (a ++ b) = joinL a + 128 ^ a.length * joinL b
  | [], b => by simp [joinL]
  | c :: a, b => by
    simp only [List.cons_append, joinL, joinL_append a b, List.length_cons, Nat.pow_succ]
    rw [Nat.mul_add, ← Nat.mul_assoc 128, Nat.mul_comm 128 (128 ^ a.length)]
    omega
theorem join_step (s : ByteArray) (k : Nat) (hk : k + 1 ≤ s.size) (h : joinL s.data.toList < 18446744073709551616) :
    joinL (s.data.toList.drop (k + 1)) * 128 + bN s k % 128 < 18446744073709551616 ∧ joinL (s.data.toList.drop k) = joinL (s.data.toList.drop (k + 1)) * 128 + bN s k % 128 := by
  have e : joinL (s.data.toList.drop k) = joinL (s.data.toList.drop (k + 1)) * 128 + bN s k % 128 := by
    have hl : k < s.data.toList.length := by rw [size_list]; omega
    rw [List.drop_eq_getElem_cons hl]
    simp only [joinL, bN]
    rw [List.getD_eq_getElem?_getD, List.getElem?_eq_getElem hl]
    simp only [Option.getD_some]
    omega
  refine ⟨?_, e⟩
  rw [← e]
  refine Nat.lt_of_le_of_lt ?_ h
  have := joinL_append (s.data.toList.take k) (s.data.toList.drop k)
  rw [List.take_append_drop] at this
  rw [this]
  have hp : 1 ≤ 128 ^ (s.data.toList.take k).length := Nat.pow_pos (by decide)
  exact Nat.le_trans (Nat.le_mul_of_pos_left _ hp) (Nat.le_add_left _ _)
theorem or_join (J b : Nat) (h : J * 128 + b % 128 < 18446744073709551616) : bits .or .u64 ((J : Int) * 128) ((b : Int) % 128) = (J : Int) * 128 + (b : Int) % 128 := by
  have := u64_or_nat (J * 128) (b % 128) (by omega) (by omega)
  rw [nat_join 7 (J * 128) (b % 128) (by omega) (by omega)] at this
  simpa using this
theorem pow_128 (n : Nat) : 128 ^ n = 2 ^ (7 * n) := by rw [Nat.pow_mul]
theorem joinL_bound {l : List UInt8} {n : Nat} (h : sizeL 10 l = some n) (hov : ¬ (n = 10 ∧ 1 < (l.getD (n - 1) 0).toNat)) : joinL (l.take n) < 18446744073709551616 := by
  obtain ⟨h1, h2, h3, _, _⟩ := sizeL_some 10 l n h
  by_cases hn : n = 10
  · subst hn
    have hl := joinL_append (l.take 9) ((l.take 10).drop 9)
    have e : l.take 9 = (l.take 10).take 9 := by rw [List.take_take]; rfl
    rw [e, List.take_append_drop] at hl
    have h9 := joinL_lt ((l.take 10).take 9)
    have hlen : ((l.take 10).take 9).length = 9 := by simp; omega
    rw [hlen] at h9 hl
    have hd : (l.take 10).drop 9 = [l.getD 9 0] := by
      rw [List.drop_eq_getElem_cons (by simp; omega), List.drop_eq_nil_of_le (by simp; omega)]
      simp [List.getElem_take, List.getD_eq_getElem?_getD, List.getElem?_eq_getElem (show 9 < l.length by omega)]
    rw [hd] at hl
    simp only [joinL] at hl
    have hb : (l.getD 9 0).toNat ≤ 1 := by
      have : ¬ 1 < (l.getD (10 - 1) 0).toNat := fun h => hov ⟨rfl, h⟩
      simpa using this
    rw [hl, show (128 : Nat) ^ 9 = 9223372036854775808 from by decide] at *
    omega
  · have := joinL_lt (l.take n)
    rw [List.length_take, Nat.min_eq_left h3] at this
    refine Nat.lt_of_lt_of_le this ?_
    rw [pow_128]
    exact Nat.le_trans (Nat.pow_le_pow_right (by decide) (show 7 * n ≤ 64 by omega)) (by decide)

/-! signs -/
/-- x xor all ones. -/
theorem nat_xor_ones {x : Nat} (h : x < 18446744073709551616) : x ^^^ 18446744073709551615 = 18446744073709551615 - x := by
  have e : (BitVec.ofNat 64 x ^^^ BitVec.allOnes 64).toNat = 18446744073709551615 - x := by
    rw [BitVec.xor_allOnes, BitVec.toNat_not, BitVec.toNat_ofNat, Nat.mod_eq_of_lt (by omega)]
  rw [BitVec.toNat_xor, BitVec.toNat_ofNat, BitVec.toNat_allOnes, Nat.mod_eq_of_lt (by omega)] at e
  exact e
theorem u64_xor_ones {x : Nat} (h : x < 18446744073709551616) : bits .xor .u64 (x : Int) 18446744073709551615 = 18446744073709551615 - (x : Int) := by
  have := u64_xor_nat x 18446744073709551615 h (by omega)
  rw [nat_xor_ones h] at this
  have e : ((18446744073709551615 - x : Nat) : Int) = 18446744073709551615 - (x : Int) := by omega
  rw [← e]; exact this
theorem u64_xor_zero {x : Nat} (h : x < 18446744073709551616) : bits .xor .u64 (x : Int) 0 = (x : Int) := by
  have := u64_xor_nat x 0 h (by omega)
  rw [Nat.xor_zero] at this; exact this
def zigN (a : Int) : Int := if a < 0 then -2 * a - 1 else 2 * a
def zagN (v : Int) : Int := if v % 2 = 1 then -(v / 2) - 1 else v / 2
theorem zig_eq {a : Int} (h1 : -9223372036854775808 ≤ a) (h2 : a ≤ 9223372036854775807) :
    bits .xor .u64 (IntKind.u64.wrap (IntKind.u64.wrap a * 2)) (IntKind.u64.wrap (a / 9223372036854775808)) = zigN a := by
  unfold zigN
  by_cases h : a < 0
  · rw [if_pos h, show a / 9223372036854775808 = -1 from by omega, show IntKind.u64.wrap (-1) = 18446744073709551615 from by rw [IntKind.wrap_u64]; rfl]
    have e : IntKind.u64.wrap (IntKind.u64.wrap a * 2) = ((a * 2 + 18446744073709551616).toNat : Int) := by rw [IntKind.wrap_u64, IntKind.wrap_u64]; omega
    rw [e, u64_xor_ones (by omega)]; omega
  · rw [if_neg h, show a / 9223372036854775808 = 0 from by omega, show IntKind.u64.wrap 0 = 0 from by rw [IntKind.wrap_u64]; rfl]
    have e : IntKind.u64.wrap (IntKind.u64.wrap a * 2) = ((a * 2).toNat : Int) := by rw [IntKind.wrap_u64, IntKind.wrap_u64]; omega
    rw [e, u64_xor_zero (by omega)]; omega
theorem zag_eq {v : Int} (h1 : 0 ≤ v) (h2 : v ≤ 18446744073709551615) :
    bits .xor .i64 (v / 2) (wrap64 (-wrap64 (bits .and .u64 v 1))) = zagN v := by
  rw [show v / 2 = wrap64 (v / 2) from by unfold wrap64; omega]
  obtain ⟨n, rfl⟩ := Int.eq_ofNat_of_zero_le h1
  have ha : bits .and .u64 (n : Int) 1 = (n : Int) % 2 := by
    have := u64_and_nat n 1 (by omega) (by omega)
    rw [nat_mask1] at this; exact this
  rw [ha]
  unfold zagN
  by_cases h : (n : Int) % 2 = 1
  · rw [if_pos h, h]
    have e1 : wrap64 (-wrap64 1) = -1 := by unfold wrap64; rfl
    have e2 : wrap64 ((n : Int) / 2) = ((n / 2 : Nat) : Int) := by unfold wrap64; omega
    rw [e1, e2]
    show IntKind.i64.wrap ((BitVec.ofInt 64 ((n / 2 : Nat) : Int) ^^^ BitVec.ofInt 64 (-1)).toNat : Int) = _
    rw [show BitVec.ofInt 64 (-1) = BitVec.allOnes 64 from by decide, BitVec.xor_allOnes, BitVec.toNat_not, BitVec.ofInt_natCast, BitVec.toNat_ofNat, IntKind.wrap_i64]
    omega
  · rw [if_neg h, show (n : Int) % 2 = 0 from by omega]
    have e1 : wrap64 (-wrap64 0) = 0 := by unfold wrap64; rfl
    have e2 : wrap64 ((n : Int) / 2) = ((n / 2 : Nat) : Int) := by unfold wrap64; omega
    rw [e1, e2]
    show IntKind.i64.wrap ((BitVec.ofInt 64 ((n / 2 : Nat) : Int) ^^^ BitVec.ofInt 64 0).toNat : Int) = _
    rw [show BitVec.ofInt 64 0 = 0#64 from by decide, BitVec.xor_zero, BitVec.ofInt_natCast, BitVec.toNat_ofNat, IntKind.wrap_i64]
    omega
theorem zag_zig (a : Int) : zagN (zigN a) = a := by unfold zagN zigN; split <;> split <;> omega
theorem zig_zag {v : Int} (h : 0 ≤ v) : zigN (zagN v) = v := by unfold zagN zigN; split <;> split <;> omega
theorem zig_bd {a : Int} (h1 : -9223372036854775808 ≤ a) (h2 : a ≤ 9223372036854775807) : 0 ≤ zigN a ∧ zigN a ≤ 18446744073709551615 := by unfold zigN; split <;> omega
theorem zag_bd {v : Int} (h1 : 0 ≤ v) (h2 : v ≤ 18446744073709551615) : -9223372036854775808 ≤ zagN v ∧ zagN v ≤ 9223372036854775807 := by unfold zagN; split <;> omega
theorem zig_odd (a : Int) : (zigN a % 2 == 1) = decide (a < 0) := by
  unfold zigN
  by_cases h : a < 0
  · simp [h]; omega
  · simp [h]

/-! what is put is read back -/
theorem putL_facts : ∀ (n : Nat), (∀ j, j < (putL n).length - 1 → 128 ≤ ((putL n).getD j 0).toNat) ∧ ((putL n).getD ((putL n).length - 1) 0).toNat < 128 ∧
    (1 < (putL n).length → 0 < ((putL n).getD ((putL n).length - 1) 0).toNat) ∧ joinL (putL n) = n ∧ ((putL n).getD ((putL n).length - 1) 0).toNat * 128 ^ ((putL n).length - 1) ≤ n := by
  intro n
  induction n using Nat.strongRecOn with
  | _ n ih =>
    by_cases h : n < 128
    · rw [putL_lt h]
      have e : (UInt8.ofNat n).toNat = n := by rw [UInt8.toNat_ofNat', Nat.mod_eq_of_lt (by omega)]
      simp only [List.length_singleton, Nat.sub_self, List.getD_cons_zero, e, joinL, Nat.pow_zero]
      refine ⟨fun j hj => by omega, h, fun h => by omega, by omega, by omega⟩
    · rw [putL_ge h]
      obtain ⟨i1, i2, i3, i4, i5⟩ := ih (n / 128) (by omega)
      have hp := putL_pos (n / 128)
      have e : (UInt8.ofNat (n % 128 + 128)).toNat = n % 128 + 128 := by rw [UInt8.toNat_ofNat', Nat.mod_eq_of_lt (by omega)]
      obtain ⟨m, hm⟩ : ∃ m, (putL (n / 128)).length = m + 1 := ⟨(putL (n / 128)).length - 1, by omega⟩
      simp only [List.length_cons, hm, Nat.add_sub_cancel, List.getD_cons_succ]
      simp only [hm, Nat.add_sub_cancel] at i1 i2 i3 i5
      refine ⟨?_, i2, ?_, ?_, ?_⟩
      · intro j hj
        cases j with
        | zero => simp only [List.getD_cons_zero, e]; omega
        | succ j => simpa using i1 j (by omega)
      · intro _
        by_cases hm1 : 1 < m + 1
        · exact i3 hm1
        · have : m = 0 := by omega
          subst this
          have h128 : n / 128 < 128 := by
            by_cases h2 : n / 128 < 128
            · exact h2
            · have := putL_ge h2
              rw [this] at hm; simp only [List.length_cons] at hm
              have := putL_pos (n / 128 / 128); omega
          rw [putL_lt h128]
          simp only [List.getD_cons_zero, UInt8.toNat_ofNat']
          rw [Nat.mod_eq_of_lt (by omega)]; omega
      · simp only [joinL, e, i4]; omega
      · rw [Nat.pow_succ, ← Nat.mul_assoc]; omega
theorem getD_append_lt {l r : List UInt8} {j : Nat} (h : j < l.length) : (l ++ r).getD j 0 = l.getD j 0 := by
  rw [List.getD_eq_getElem?_getD, List.getD_eq_getElem?_getD, List.getElem?_append_left h]
theorem getL_put {n : Nat} (h : n < 18446744073709551616) (rest : List UInt8) : getL (putL n ++ rest) = (n, (putL n).length, 0) := by
  obtain ⟨f1, f2, f3, f4, f5⟩ := putL_facts n
  have h10 := putL_len10 h
  have hp := putL_pos n
  have hs : sizeL 10 (putL n ++ rest) = some ((putL n).length - 1 + 1) := sizeL_hit 10 _ _ (by omega) (by rw [List.length_append]; omega)
    (fun j hj => by rw [getD_append_lt (by omega)]; exact f1 j hj) (by rw [getD_append_lt (by omega)]; exact f2)
  rw [show (putL n).length - 1 + 1 = (putL n).length from by omega] at hs
  unfold getL
  rw [hs]
  simp only [getD_append_lt (l := putL n) (r := rest) (j := (putL n).length - 1) (by omega)]
  rw [if_neg, if_neg, List.take_left, f4]
  · rintro ⟨a, b⟩; have := f3 a; omega
  · rintro ⟨a, b⟩
    rw [a] at f5 b
    rw [show (128 : Nat) ^ (10 - 1) = 9223372036854775808 from by decide] at f5
    omega
theorem getL_shortP {l : List UInt8} (hl : l.length < 10) (hall : ∀ j, j < l.length → 128 ≤ (l.getD j 0).toNat) : getL l = (0, 0, 10) := by
  unfold getL
  rw [sizeL_none 10 l (fun j _ h2 => hall j h2)]
  simp [hl]
theorem getL_prefix {n : Nat} (h : n < 18446744073709551616) {k : Nat} (hk : k < (putL n).length) : getL ((putL n).take k) = (0, 0, 10) := by
  obtain ⟨f1, _⟩ := putL_facts n
  have h10 := putL_len10 h
  refine getL_shortP (by rw [List.length_take]; omega) (fun j hj => ?_)
  rw [List.length_take] at hj
  rw [List.getD_eq_getElem?_getD, List.getElem?_take, if_pos (by omega), ← List.getD_eq_getElem?_getD]
  exact f1 j (by omega)
theorem putL_mono : ∀ (b a : Nat), a ≤ b → (putL a).length ≤ (putL b).length := by
  intro b
  induction b using Nat.strongRecOn with
  | _ b ih =>
    intro a hab
    by_cases ha : a < 128
    · rw [putL_lt ha]; have := putL_pos b; simp; omega
    · rw [putL_ge ha, putL_ge (show ¬ b < 128 by omega)]
      have := ih (b / 128) (by omega) (a / 128) (by omega)
      simp; omega
theorem putL_join : ∀ (l : List UInt8), 0 < l.length → (∀ j, j < l.length - 1 → 128 ≤ (l.getD j 0).toNat) → (l.getD (l.length - 1) 0).toNat < 128 →
    (1 < l.length → 0 < (l.getD (l.length - 1) 0).toNat) → putL (joinL l) = l
  | [], h, _, _, _ => by simp at h
  | [b], _, _, h, _ => by
    simp only [List.length_singleton, Nat.sub_self, List.getD_cons_zero] at h
    simp only [joinL]
    rw [Nat.mul_zero, Nat.add_zero, Nat.mod_eq_of_lt h, putL_lt h, UInt8.ofNat_toNat]
  | b :: c :: r, _, hall, hlast, hpos => by
    have ih := putL_join (c :: r) (by simp) (fun j hj => by simpa using hall (j + 1) (by simp at hj ⊢; omega)) (by simpa using hlast)
      (fun h => by simpa using hpos (by simp))
    have hb := hall 0 (by simp)
    simp only [List.getD_cons_zero] at hb
    have hge : 1 ≤ joinL (c :: r) := by
      rcases Nat.eq_zero_or_pos (joinL (c :: r)) with h0 | h0
      · rw [h0, putL_lt (by decide)] at ih
        have e : c :: r = [0] := ih.symm.trans rfl
        rw [e] at hpos
        have := hpos (by simp)
        simp at this
      · exact h0
    have hbl := UInt8.toNat_lt b
    have hj : joinL (b :: c :: r) = b.toNat % 128 + 128 * joinL (c :: r) := rfl
    rw [hj, putL_ge (by omega), show (b.toNat % 128 + 128 * joinL (c :: r)) / 128 = joinL (c :: r) from by omega, ih,
      show (b.toNat % 128 + 128 * joinL (c :: r)) % 128 + 128 = b.toNat from by omega, UInt8.ofNat_toNat]
theorem getL_ok {l : List UInt8} (h : (getL l).2.2 = 0) : 1 ≤ (getL l).2.1 ∧ (getL l).2.1 ≤ l.length ∧ putL (getL l).1 = l.take (getL l).2.1 ∧ (getL l).1 < 18446744073709551616 := by
  rcases hs : sizeL 10 l with _ | n
  · exfalso
    unfold getL at h; rw [hs] at h
    by_cases h10 : l.length < 10
    · simp [h10] at h
    · simp [h10] at h
  · obtain ⟨h1, h2, h3, h4, h5⟩ := sizeL_some 10 l n hs
    unfold getL at h ⊢
    rw [hs] at h ⊢
    simp only at h ⊢
    by_cases c1 : n = 10 ∧ 1 < (l.getD (n - 1) 0).toNat
    · rw [if_pos c1] at h; simp at h
    · by_cases c2 : 1 < n ∧ (l.getD (n - 1) 0).toNat = 0
      · rw [if_neg c1, if_pos c2] at h; simp at h
      · rw [if_neg c1, if_neg c2]
        refine ⟨h1, h3, ?_, joinL_bound hs c1⟩
        have hg : ∀ j, j < n → (l.take n).getD j 0 = l.getD j 0 := fun j hj => by
          rw [List.getD_eq_getElem?_getD, List.getElem?_take, if_pos hj, ← List.getD_eq_getElem?_getD]
        have hl : (l.take n).length = n := by rw [List.length_take]; omega
        refine putL_join _ (by omega) ?_ ?_ ?_
        · intro j hj; rw [hl] at hj; rw [hg j (by omega)]; exact h4 j hj
        · rw [hl, hg _ (by omega)]; exact h5
        · intro hn; rw [hl] at hn ⊢; rw [hg _ (by omega)]; omega
theorem getL_err {l : List UInt8} (h : (getL l).2.2 ≠ 0) : (getL l).1 = 0 ∧ (getL l).2.1 = 0 := by
  unfold getL at h ⊢
  rcases hs : sizeL 10 l with _ | n
  · by_cases h10 : l.length < 10 <;> simp [h10]
  · rw [hs] at h
    simp only at h ⊢
    by_cases c1 : n = 10 ∧ 1 < (l.getD (n - 1) 0).toNat
    · rw [if_pos c1]; exact ⟨rfl, rfl⟩
    · by_cases c2 : 1 < n ∧ (l.getD (n - 1) 0).toNat = 0
      · rw [if_neg c1, if_pos c2]; exact ⟨rfl, rfl⟩
      · rw [if_neg c1, if_neg c2] at h; exact absurd rfl h
end Go.VarM

/- The walks over package varint: what Put, Size, Get, Zig and Zag return. -/
namespace Go.Proofs.YtbolbbngncnecaaGreat
open Go.RowKit Go.VB Go.VarM

theorem Tryz.infoU8 : (Tryz.prog.info? 5).map (fun i => (i.zero, i.size, i.bytes)) = some (some (.int .u8 0), 1, 1) := by kernel_rfl

set_option maxRecDepth 100000 in
set_option maxHeartbeats 400000 in
theorem vput_any (n : Nat) (w : World) (h : n < 18446744073709551616) :
    Calls Tryz.prog 52 #[.int .u64 (n : Int)] w (RetB (.string (str (putL n))) w) := by
  have hmk : ∀ w, (Instr.makeSlice 30 (.int .i64 0) (.int .i64 10)).run Tryz.prog w = .ok (.slice (some ⟨w.heap.size, 0, none⟩) 0 10) (w.alloc (.cells (Array.replicate 10 (.int .u8 0)) 5)) := fun _ => by kernel_rfl
  have h10 := putL_len10 h
  go_enter Tryz.func52, Tryz.ntmps52
  go_wp2
  go_loopw [0, 3] (fun v enc wr => ∃ (x : Nat) (done : List UInt8), v = .int .u64 x ∧ x < 18446744073709551616 ∧ OwnB 5 wr w.heap.size enc done ∧ done ++ putL x = putL n ∧ Below w.heap.size w wr)
    (fun v _ _ => (intOf v).toNat)
  case atStart => exact ⟨n, [], rfl, h, World.ownsRow_made w _ 10 (Nat.le_refl _) (by decide) (by simp), rfl, (Below.refl _ _).alloc (Nat.le_refl _) _⟩
  case round =>
    obtain ⟨x, done, rfl, hx, hown, hput, hbel⟩ := hrel
    have hle : done.length ≤ 10 := by have := congrArg List.length hput; rw [List.length_append] at this; omega
    have hsz := hbel.size
    clear hmk
    by_cases hlt : x < 128
    · go_wp2_with (at_builtin; refine wpl_app1 rfl _ _ 30 rfl w.heap.size 5 Tryz.underlying30 Tryz.infoU8 _ done rfl (hown.alloc _) wr.heap.size 1 _ rfl (cell_new1 _ _ _) (by omega) (by omega) (by omega) (by simp; omega) ?_)
      intro v' w' hown' hb'
      have hcv := run_string_of_own (P := Tryz.prog) 30 9 5 Tryz.underlying30 Tryz.underlying5 Tryz.underlying9 hown'
      go_wp2
      go_ret
      refine RetB.mk ?_ (hbel.trans (((Below.refl _ _).alloc (by omega) _).trans hb'))
      show Value.string _ = _
      rw [← hput, putL_lt hlt]
    · have e1 := and127 hx
      have e2 := or128 x
      go_wp2_with (at_builtin; refine wpl_app1 rfl _ _ 30 rfl w.heap.size 5 Tryz.underlying30 Tryz.infoU8 _ done rfl (hown.alloc _) wr.heap.size 1 _ rfl (cell_new1 _ _ _) (by omega) (by omega) (by omega) (by simp; omega) ?_)
      intro v' w' hown' hb'
      go_wp2
      go_roundw
      case rel =>
        refine ⟨x / 128, _, by go_num, by omega, hown', ?_, hbel.trans (((Below.refl _ _).alloc (by omega) _).trans hb')⟩
        rw [← hput, putL_ge hlt, List.append_assoc]
        have : (((x : Int) % 128 + 128).toNat) = x % 128 + 128 := by omega
        rw [this]; rfl
      case measure => simp [intOf] <;> omega

set_option maxRecDepth 100000 in
set_option maxHeartbeats 400000 in
theorem rput_any (n : Nat) (w : World) (h : n < 18446744073709551616) :
    Calls Tryz.prog 15 #[.int .u64 (n : Int)] w (RetB (.string (str (putL n))) w) := by
  have h10 := putL_len10 h
  have hcs := run_string1 (P := Tryz.prog) 30 9 5 Tryz.underlying30 Tryz.underlying5 Tryz.underlying9
  go_enter Tryz.func15, Tryz.ntmps15
  go_wp2
  go_loopw [0, 3] (fun v s wr => ∃ (x : Nat) (done : List UInt8), v = .int .u64 x ∧ x < 18446744073709551616 ∧ s = .string (str done) ∧ done ++ putL x = putL n ∧ Below w.heap.size w wr)
    (fun v _ _ => (intOf v).toNat)
  case atStart => exact ⟨n, [], rfl, h, rfl, rfl, Below.refl _ _⟩
  case round =>
    obtain ⟨x, done, rfl, hx, rfl, hput, hbel⟩ := hrel
    have hle : done.length ≤ 10 := by have := congrArg List.length hput; rw [List.length_append] at this; omega
    have hsz := hbel.size
    have hadd := run_add_str (P := Tryz.prog) done 10 hle (by omega)
    by_cases hlt : x < 128
    · go_wp2
      go_ret
      refine RetB.mk ?_ (hbel.alloc (by omega) _)
      show Value.string _ = _
      rw [← hput, putL_lt hlt]
    · have e2 := or128' x
      go_wp2
      go_roundw
      case rel =>
        refine ⟨x / 128, _, by go_num, by omega, rfl, ?_, hbel.alloc (by omega) _⟩
        rw [← hput, putL_ge hlt, List.append_assoc]
        simp
      case measure => simp [intOf] <;> omega


set_option maxRecDepth 100000 in
set_option maxHeartbeats 400000 in
theorem vesize_any (s : ByteArray) (w : World) (hs : s.size ≤ maxLen) :
    Calls Tryz.prog 105 #[.string s] w (Ret (.tuple #[.int .i64 ((esL s.data.toList).1 : Nat), .int .i64 ((esL s.data.toList).2 : Nat)]) w) := by
  unfold maxLen at hs
  have hb := get_bN s
  have hl := size_list s
  have HL := Lib.hid hl; clear hl
  by_cases h10 : s.size ≤ 10
  all_goals
    go_enter Tryz.func105, Tryz.ntmps105
    go_wp2
    go_loop [8] (fun v => ∃ (k : Nat), v = .int .i64 k ∧ k ≤ 10 ∧ k ≤ s.size ∧ ∀ j, j < k → 128 ≤ bN s j) (fun v => 10 - (intOf v).toNat)
    case atStart => exact ⟨0, rfl, by omega, by omega, fun j hj => by omega⟩
    case round =>
      obtain ⟨k, rfl, hk, hks, hall⟩ := hrel
      have HA := Lib.hid hall; clear hall
      by_cases hlt : k < s.size ∧ k < 10
      · obtain ⟨hlt, hlt10⟩ := hlt
        have hbl := bN_lt s k
        by_cases hbk : bN s k < 128
        · have e1 := and128_lo hbk
          go_wp2
          go_ret2
          refine Ret.mk ?_
          have := sizeL_hit 10 s.data.toList k hlt10 (by rw [HL.out]; exact hlt) HA.out hbk
          rw [esL_some this] <;> rfl
        · have e1 := and128_hi (Nat.le_of_not_lt hbk) hbl
          go_wp2
          go_round
          case rel =>
            refine ⟨k + 1, by go_num, by omega, by omega, fun j hj => ?_⟩
            by_cases hjk : j = k
            · subst hjk; omega
            · exact HA.out j (by omega)
          case measure => simp [intOf] <;> omega
      · have hn := sizeL_none 10 s.data.toList (fun j h1 h2 => HA.out j (by rw [HL.out] at h2; omega))
        have HN := Lib.hid hn; clear hn
        by_cases hl10 : s.size < 10
        · go_wp2
          all_goals
            go_ret2
            refine Ret.mk ?_
            rw [esL_short HN.out (by rw [HL.out]; exact hl10)] <;> rfl
        · go_wp2
          go_ret2
          refine Ret.mk ?_
          rw [esL_over HN.out (by rw [HL.out]; exact hl10)] <;> rfl

set_option maxRecDepth 100000 in
set_option maxHeartbeats 400000 in
theorem vjoin_any (s : ByteArray) (w : World) (hs : s.size ≤ 10) (hj : joinL s.data.toList < 18446744073709551616) :
    Calls Tryz.prog 106 #[.string s] w (Ret (.int .u64 (joinL s.data.toList : Nat)) w) := by
  have hb := get_bN s
  have HL := Lib.hid (size_list s)
  have HJ := Lib.hid hj; clear hj
  go_enter Tryz.func106, Tryz.ntmps106
  go_wp2
  go_loop [3, 4] (fun v i => ∃ (k : Nat), k ≤ s.size ∧ i = .int .i64 ((k : Int) - 1) ∧ v = .int .u64 (joinL (s.data.toList.drop k) : Nat)) (fun _ i => (intOf i + 1).toNat)
  case atStart => exact ⟨s.size, by omega, rfl, by rw [List.drop_of_length_le (by rw [HL.out]; omega)]; rfl⟩
  case round =>
    obtain ⟨k, hk, rfl, rfl⟩ := hrel
    cases k with
    | zero =>
      go_wp2
      go_ret
      exact Ret.mk (by rfl)
    | succ k =>
      have hbl := bN_lt s k
      have e1 := and127b hbl
      obtain ⟨hj1, hj2⟩ := join_step s k hk HJ.out
      have HJ2 := Lib.hid hj2; clear hj2
      generalize hJ : joinL (s.data.toList.drop (k + 1)) = J at hj1 HJ2 ⊢
      have HJ3 := Lib.hid hJ; clear hJ
      have e2 := or_join J (bN s k) hj1
      go_wp2
      go_round
      case rel =>
        refine ⟨k, by omega, ?_, ?_⟩
        · first | rfl | go_num
        · rw [HJ2.out]
          first | rfl | go_num
      case measure => simp [intOf] <;> omega


end Go.Proofs.YtbolbbngncnecaaGreat

/- The walk over varint.Get. -/
namespace Go.Proofs.YtbolbbngncnecaaGreat
open Go.RowKit Go.VB Go.VarM
theorem getR_out {s : ByteArray} {i : Int} (h : i < 0 ∨ (s.size : Int) < i) : getR s i = (0, 0, 4) := by unfold getR; rw [if_pos h]
theorem getR_in {s : ByteArray} {k : Nat} (h : k ≤ s.size) {r : Nat × Nat × Nat} (hg : getL (s.data.toList.drop k) = r) : getR s k = if r.2.2 = 0 then (r.1, (k : Int) + r.2.1, 0) else (0, 0, r.2.2) := by
  unfold getR
  rw [if_neg (by omega), Int.toNat_natCast, hg]
/-- The three results. -/
def vres (r : Nat × Int × Nat) : Value := .tuple #[.int .u64 (r.1 : Nat), .int .i64 r.2.1, .int .i64 (r.2.2 : Nat)]
set_option maxRecDepth 100000 in
set_option maxHeartbeats 1000000 in
theorem vget_any (s : ByteArray) (i : Int) (w : World) (hs : s.size ≤ maxLen) :
    Calls Tryz.prog 82 #[.string s, .int .i64 i] w (Ret (vres (getR s i)) w) := by
  unfold maxLen at hs
  by_cases hr : i < 0 ∨ (s.size : Int) < i
  · rw [getR_out hr]
    rcases hr with hr | hr
    · go_enter Tryz.func82, Tryz.ntmps82
      go_wp2
      go_ret3
      exact Ret.mk rfl
    · by_cases h0 : i < 0
      · omega
      · go_enter Tryz.func82, Tryz.ntmps82
        go_wp2
        go_ret3
        exact Ret.mk rfl
  · obtain ⟨k, rfl⟩ : ∃ k : Nat, i = k := ⟨i.toNat, by omega⟩
    have hk : k ≤ s.size := by omega
    have hlen : (s.data.toList.drop k).length = s.size - k := by rw [List.length_drop, size_list]
    have hes := vesize_any (s.extract k s.size) w (by rw [extract_end, str_size, hlen]; unfold maxLen; omega)
    rw [extract_list, List.take_of_length_le (by rw [hlen]; omega)] at hes
    have HLEN := Lib.hid hlen; clear hlen
    clear hr
    rcases hsz : sizeL 10 (s.data.toList.drop k) with _ | n
    · by_cases h10 : (s.data.toList.drop k).length < 10
      · rw [esL_short hsz h10] at hes
        rw [getR_in hk (r := (0, 0, 10)) (by unfold getL; rw [hsz]; simp only [h10, if_true])]
        have HES := Lib.hid hes; clear hes hsz h10
        go_enter Tryz.func82, Tryz.ntmps82
        go_wp2_with (go_at_call 105; refine HES.out.mono ?_; rintro e w' ⟨rfl, rfl⟩)
        go_ret3
        exact Ret.mk rfl
      · rw [esL_over hsz h10] at hes
        rw [getR_in hk (r := (0, 0, 8)) (by unfold getL; rw [hsz]; simp only [h10, if_false])]
        have HES := Lib.hid hes; clear hes hsz h10
        go_enter Tryz.func82, Tryz.ntmps82
        go_wp2_with (go_at_call 105; refine HES.out.mono ?_; rintro e w' ⟨rfl, rfl⟩)
        go_ret3
        exact Ret.mk rfl
    · rw [esL_some hsz] at hes
      obtain ⟨hn1, hn10, hnl, hall, hlast⟩ := sizeL_some 10 _ n hsz
      rw [HLEN.out] at hnl
      have hb := get_bN s
      have hgl : ((s.data.toList.drop k).getD (n - 1) 0).toNat = bN s (k + n - 1) := by
        unfold bN
        rw [List.getD_eq_getElem?_getD, List.getElem?_drop, ← List.getD_eq_getElem?_getD, show k + (n - 1) = k + n - 1 from by omega]
      have hgetL : getL (s.data.toList.drop k) = if n = 10 ∧ 1 < bN s (k + n - 1) then (0, 0, 8) else if 1 < n ∧ bN s (k + n - 1) = 0 then (0, 0, 2) else (joinL ((s.data.toList.drop k).take n), n, 0) := by
        unfold getL; rw [hsz]; simp only [hgl]
      rw [hgl] at hlast
      have hjl0 := fun h => joinL_bound hsz h
      rw [hgl] at hjl0
      generalize hB : bN s (k + n - 1) = B at hgetL hlast hjl0
      have hb1 : ∀ h : k + n - 1 < s.size, (s[k + n - 1]'h).toNat = B := fun h => by rw [hb, hB]
      have HES := Lib.hid hes; have HJ0 := Lib.hid hjl0; clear hes hsz hall hgl hb hB hjl0
      by_cases hov : n = 10 ∧ 1 < B
      · rw [getR_in hk (r := (0, 0, 8)) (by rw [hgetL, if_pos hov])]
        obtain ⟨hn, hov⟩ := hov
        have hn' : 10 ≤ n := by omega
        clear hgetL hn
        go_enter Tryz.func82, Tryz.ntmps82
        go_wp2_with (go_at_call 105; refine HES.out.mono ?_; rintro e w' ⟨rfl, rfl⟩)
        go_ret3
        exact Ret.mk rfl
      · have hov' : n ≤ 9 ∨ (10 ≤ n ∧ B ≤ 1) := by omega
        by_cases hz : 1 < n ∧ B = 0
        · rw [getR_in hk (r := (0, 0, 2)) (by rw [hgetL, if_neg hov, if_pos hz])]
          obtain ⟨hz1, hz0⟩ := hz
          have hz0' : B ≤ 0 := by omega
          clear hgetL hov hz0
          rcases hov' with hov' | ⟨hov', hov2⟩
          all_goals
            go_enter Tryz.func82, Tryz.ntmps82
            go_wp2_with (go_at_call 105; refine HES.out.mono ?_; rintro e w' ⟨rfl, rfl⟩)
            all_goals (go_ret3; exact Ret.mk rfl)
        · rw [getR_in hk (r := (joinL ((s.data.toList.drop k).take n), n, 0)) (by rw [hgetL, if_neg hov, if_neg hz])]
          have hz' : n ≤ 1 ∨ (2 ≤ n ∧ 1 ≤ B) := by omega
          have hjl := HJ0.out hov
          have hj := vjoin_any (s.extract k (k + n)) w (by simp; omega) (by rw [extract_list, show k + n - k = n from by omega]; exact hjl)
          rw [extract_list, show k + n - k = n from by omega] at hj
          have HJ := Lib.hid hj
          clear hgetL hov hz hj hjl
          rcases hov' with hov' | ⟨hov', hov2⟩
          · rcases hz' with hz' | ⟨hz', hz2⟩
            · go_enter Tryz.func82, Tryz.ntmps82
              go_wp2_with (first | (go_at_call 105; refine HES.out.mono ?_; rintro e w' ⟨rfl, rfl⟩) | (go_at_call 106; refine HJ.out.mono ?_; rintro e w' ⟨rfl, rfl⟩))
              all_goals (go_ret3; exact Ret.mk rfl)
            · go_enter Tryz.func82, Tryz.ntmps82
              go_wp2_with (first | (go_at_call 105; refine HES.out.mono ?_; rintro e w' ⟨rfl, rfl⟩) | (go_at_call 106; refine HJ.out.mono ?_; rintro e w' ⟨rfl, rfl⟩))
              all_goals (go_ret3; exact Ret.mk rfl)
          · have hn : n = 10 := by omega
            subst hn
            have hb2 : ∀ h : k + 9 < s.size, (s[k + 9]'h).toNat = B := hb1
            rcases hz' with hz' | ⟨hz', hz2⟩
            · omega
            · go_enter Tryz.func82, Tryz.ntmps82
              go_wp2_with (first | (go_at_call 105; refine HES.out.mono ?_; rintro e w' ⟨rfl, rfl⟩) | (go_at_call 106; refine HJ.out.mono ?_; rintro e w' ⟨rfl, rfl⟩))
              all_goals (go_ret3; exact Ret.mk rfl)

end Go.Proofs.YtbolbbngncnecaaGreat

/- The walks over the reference of package varint, and over Zig and Zag. -/
namespace Go.VarM
open Go.RowKit Go.VB
theorem or_shift (v b k : Nat) (hv : v < 128 ^ k) (hk : k ≤ 9) (hb : k ≤ 8 ∨ b ≤ 1) (hb' : b < 256) :
    bits .or .u64 (v : Int) (IntKind.u64.wrap ((b : Int) % 128 * 2 ^ (7 * k))) = ((v + b % 128 * 128 ^ k : Nat) : Int) ∧ b % 128 * 128 ^ k + v < 18446744073709551616 := by
  have hp : 128 ^ k = 2 ^ (7 * k) := pow_128 k
  have hlt : b % 128 * 128 ^ k + v < 18446744073709551616 := by
    rcases hb with h | h
    · have h1 : (128 : Nat) ^ k ≤ 128 ^ 8 := Nat.pow_le_pow_right (by decide) h
      have h2 : b % 128 * 128 ^ k ≤ 127 * 128 ^ 8 := Nat.mul_le_mul (by omega) h1
      rw [show (128 : Nat) ^ 8 = 72057594037927936 from by decide] at *
      omega
    · have h1 : (128 : Nat) ^ k ≤ 128 ^ 9 := Nat.pow_le_pow_right (by decide) hk
      have h2 : b % 128 * 128 ^ k ≤ 1 * 128 ^ 9 := Nat.mul_le_mul (by omega) h1
      rw [show (128 : Nat) ^ 9 = 9223372036854775808 from by decide] at *
      omega
  refine ⟨?_, hlt⟩
  have h := u64_or_nat v (b % 128 * 128 ^ k) (by omega) (by omega)
  rw [Nat.or_comm, nat_join (7 * k) (b % 128 * 128 ^ k) v (by rw [hp]; exact Nat.mul_mod_left _ _) (by rw [← hp]; exact hv), Nat.add_comm] at h
  rw [← h, hp]
  have e : ((b % 128 * 2 ^ (7 * k) : Nat) : Int) = (b : Int) % 128 * 2 ^ (7 * k) := by push_cast; rfl
  rw [← e, IntWalk.u64_in _ ⟨by omega, by rw [← hp]; omega⟩]
theorem or_shift9 (v b : Nat) (h : bits .or .u64 (v : Int) (IntKind.u64.wrap ((b : Int) % 128 * 2 ^ (7 * 9))) = ((v + b % 128 * 128 ^ 9 : Nat) : Int)) :
    b ≤ 1 → bits .or .u64 (v : Int) ((b : Int) % 128 * 9223372036854775808) = ((v + b % 128 * 128 ^ 9 : Nat) : Int) := fun hb => by
  rw [show ((b : Int) % 128 * 2 ^ (7 * 9)) = (b : Int) % 128 * 9223372036854775808 from rfl, IntWalk.u64_in _ ⟨by omega, by omega⟩] at h
  exact h
/-- The reading after k bytes, all with the highest bit. -/
theorem getL_short {l : List UInt8} {k : Nat} (hk : k < 10) (hl : l.length ≤ k) (hall : ∀ j, j < k → 128 ≤ (l.getD j 0).toNat) : getL l = (0, 0, 10) := by
  unfold getL
  rw [sizeL_none 10 l (fun j _ h2 => hall j (by omega))]
  simp [show l.length < 10 from by omega]
theorem getL_over {l : List UInt8} (hl : 10 ≤ l.length) (hall : ∀ j, j < 10 → 128 ≤ (l.getD j 0).toNat) : getL l = (0, 0, 8) := by
  unfold getL
  rw [sizeL_none 10 l (fun j h _ => hall j h)]
  simp [show ¬ l.length < 10 from by omega]
theorem getL_over1 {l : List UInt8} (hl : 9 < l.length) (hall : ∀ j, j < 9 → 128 ≤ (l.getD j 0).toNat) (hb : 1 < (l.getD 9 0).toNat) : getL l = (0, 0, 8) := by
  by_cases h : (l.getD 9 0).toNat < 128
  · unfold getL
    rw [sizeL_hit 10 l 9 (by omega) hl hall h]
    simp only [Nat.reduceAdd, Nat.reduceSub, true_and]
    rw [if_pos hb]
  · exact getL_over (by omega) (fun j hj => by
      by_cases hj9 : j = 9
      · subst hj9; omega
      · exact hall j (by omega))
theorem getL_hit {l : List UInt8} {k : Nat} (hk : k ≤ 9) (hl : k < l.length) (hall : ∀ j, j < k → 128 ≤ (l.getD j 0).toNat) (hb : (l.getD k 0).toNat < 128) (h9 : k ≤ 8 ∨ (l.getD k 0).toNat ≤ 1) :
    getL l = if 0 < k ∧ (l.getD k 0).toNat = 0 then (0, 0, 2) else (joinL (l.take k) + (l.getD k 0).toNat % 128 * 128 ^ k, k + 1, 0) := by
  unfold getL
  rw [sizeL_hit 10 l k (by omega) hl hall hb]
  simp only [Nat.add_sub_cancel]
  rw [if_neg (by omega)]
  have e : joinL (l.take (k + 1)) = joinL (l.take k) + (l.getD k 0).toNat % 128 * 128 ^ k := by
    rw [List.take_succ_eq_append_getElem hl, joinL_append, List.length_take, Nat.min_eq_left (by omega)]
    simp only [joinL]
    rw [List.getD_eq_getElem?_getD, List.getElem?_eq_getElem hl, Option.getD_some, Nat.mul_zero, Nat.add_zero, Nat.mul_comm]
  rw [e]
  by_cases h : 0 < k ∧ (l.getD k 0).toNat = 0
  · rw [if_pos h, if_pos ⟨by omega, h.2⟩]
  · rw [if_neg h, if_neg (by omega)]
theorem joinL_take_succ {l : List UInt8} {k : Nat} (hl : k < l.length) : joinL (l.take (k + 1)) = joinL (l.take k) + (l.getD k 0).toNat % 128 * 128 ^ k := by
  rw [List.take_succ_eq_append_getElem hl, joinL_append, List.length_take, Nat.min_eq_left (by omega)]
  simp only [joinL]
  rw [List.getD_eq_getElem?_getD, List.getElem?_eq_getElem hl, Option.getD_some, Nat.mul_zero, Nat.add_zero, Nat.mul_comm]
theorem joinL_take_lt {l : List UInt8} {k : Nat} (hl : k ≤ l.length) : joinL (l.take k) < 128 ^ k := by
  have := joinL_lt (l.take k)
  rwa [List.length_take, Nat.min_eq_left hl] at this
end Go.VarM
namespace Go.Proofs.YtbolbbngncnecaaGreat
open Go.RowKit Go.VB Go.VarM
theorem vres_ok {a b : Int} {A : Nat} {c : Int} {x : Nat × Int × Nat} (h1 : a = (A : Int)) (h2 : b = c) : Value.tuple #[.int .u64 a, .int .i64 b, .int .i64 0] = vres (if (0 : Nat) = 0 then (A, c, 0) else x) := by
  rw [h1, h2]; rfl
set_option maxRecDepth 100000 in
set_option maxHeartbeats 1000000 in
theorem rget_any (s : ByteArray) (i : Int) (w : World) (hs : s.size ≤ maxLen) :
    Calls Tryz.prog 63 #[.string s, .int .i64 i] w (Ret (vres (getR s i)) w) := by
  unfold maxLen at hs
  by_cases hr : i < 0 ∨ (s.size : Int) < i
  · rw [getR_out hr]
    rcases hr with hr | hr
    · go_enter Tryz.func63, Tryz.ntmps63
      go_wp2
      go_ret3
      exact Ret.mk rfl
    · by_cases h0 : i < 0
      · omega
      · go_enter Tryz.func63, Tryz.ntmps63
        go_wp2
        go_ret3
        exact Ret.mk rfl
  · obtain ⟨p, rfl⟩ : ∃ k : Nat, i = k := ⟨i.toNat, by omega⟩
    have hp : p ≤ s.size := by omega
    clear hr
    obtain ⟨l, hl⟩ : ∃ l, l = s.data.toList.drop p := ⟨_, rfl⟩
    have hlen : l.length = s.size - p := by rw [hl, List.length_drop, size_list]
    have hR := fun r (h : getL l = r) => getR_in hp (hl ▸ h)
    have hbN : ∀ j, (l.getD j 0).toNat = bN s (p + j) := fun j => by
      rw [hl]; unfold bN
      rw [List.getD_eq_getElem?_getD, List.getElem?_drop, ← List.getD_eq_getElem?_getD]
    have hb := get_bN s
    have HR := Lib.hid hR
    have HB := Lib.hid hbN
    have HL := Lib.hid hlen
    clear hR hbN hl hlen
    have hd : decide (s.size < p) = false := by simp; omega
    go_enter Tryz.func63, Tryz.ntmps63
    go_wp2
    go_loop [7, 8] (fun v c => ∃ (k V : Nat), v = .int .u64 V ∧ c = .int .i64 k ∧ k ≤ 10 ∧ p + k ≤ s.size ∧ V = joinL (l.take k) ∧ ∀ j, j < k → 128 ≤ (l.getD j 0).toNat) (fun _ c => 10 - (intOf c).toNat)
    case atStart => exact ⟨0, 0, rfl, rfl, by omega, by omega, rfl, fun j hj => by omega⟩
    case round =>
      obtain ⟨k, V, rfl, rfl, hk, hks, hV, hall⟩ := hrel
      have HV := Lib.hid hV
      have HA := Lib.hid hall
      clear hV hall
      by_cases hk10 : k < 10
      · by_cases hend : p + k < s.size
        · have hbl := bN_lt s (p + k)
          have hkl : k < l.length := by rw [HL.out]; omega
          have HK := Lib.hid hkl
          clear hkl
          generalize hB : bN s (p + k) = B at hbl
          have hb1 : ∀ h : p + k < s.size, (s[p + k]'h).toNat = B := fun h => by rw [hb, hB]
          have hlB : (l.getD k 0).toNat = B := by rw [HB.out, hB]
          have HLB := Lib.hid hlB
          clear hB hlB hb
          have e1 := and127b hbl
          by_cases h9 : 9 ≤ k ∧ 1 < B
          · obtain ⟨h9, hB1⟩ := h9
            have h99 : k = 9 := by omega
            have hg : getL l = (0, 0, 8) := getL_over1 (by have := HK.out; omega) (fun j hj => HA.out j (by omega)) (by rw [← h99, HLB.out]; exact hB1)
            have HG := Lib.hid (HR.out _ hg)
            clear hg h99
            go_wp2
            go_ret3
            refine Ret.mk ?_
            rw [HG.out]; rfl
          · have h98 : k ≤ 8 ∨ B ≤ 1 := by omega
            obtain ⟨e2, hfit⟩ := or_shift V B k (by have := joinL_take_lt (l := l) (k := k) (by have := HK.out; omega); rw [← HV.out] at this; exact this) (by omega) h98 hbl
            clear h9
            have h98' : k ≤ 8 ∨ (9 ≤ k ∧ B ≤ 1) := by omega
            clear h98
            have H98 : k ≤ 8 ∨ (l.getD k 0).toNat ≤ 1 := by rw [HLB.out]; omega
            by_cases hlo : B < 128
            · have hg := getL_hit (l := l) (k := k) (by omega) HK.out HA.out (by rw [HLB.out]; exact hlo) H98
              clear H98
              have hz : (1 ≤ k ∧ B ≤ 0) ∨ (k ≤ 0 ∧ B ≤ 0) ∨ 1 ≤ B := by omega
              rcases hz with ⟨hz1, hz⟩ | hz
              · rw [HLB.out, if_pos (by omega)] at hg
                have HG := Lib.hid (HR.out _ hg)
                clear hg
                rcases h98' with h98 | ⟨h98, h98b⟩
                · go_wp2
                  go_ret3
                  refine Ret.mk ?_
                  rw [HG.out]; rfl
                · go_wp2
                  go_ret3
                  refine Ret.mk ?_
                  rw [HG.out]; rfl
              · rw [HLB.out, if_neg (by omega), ← HV.out] at hg
                have HG := Lib.hid (HR.out _ hg)
                clear hg
                rcases hz with ⟨hz1, hz⟩ | hz
                · go_wp2
                  go_ret3
                  refine Ret.mk ?_
                  have hB0 : B = 0 := by omega
                  rw [HG.out]
                  exact vres_ok (x := (0, 0, 0)) (by rw [hB0]; simp) (by omega)
                · rcases h98' with h98 | ⟨h98, h98b⟩
                  · go_wp2
                    go_ret3
                    refine Ret.mk ?_
                    rw [HG.out]
                    exact vres_ok (x := (0, 0, 0)) rfl (by omega)
                  · have hk9 : k = 9 := by omega
                    subst hk9
                    have hb2 : ∀ h : p + 9 < s.size, (s[p + 9]'h).toNat = B := hb1
                    have e3 := or_shift9 V B e2 h98b
                    clear e2
                    go_wp2
                    go_ret3
                    refine Ret.mk ?_
                    rw [HG.out]
                    exact vres_ok (x := (0, 0, 0)) rfl (by omega)
            · have h8 : k ≤ 8 := by omega
              clear h98' H98
              go_wp2
              clear e1 e2 hb1
              go_round
              case rel =>
                refine ⟨k + 1, V + B % 128 * 128 ^ k, by go_num, by go_num, by omega, by omega, ?_, ?_⟩
                · rw [joinL_take_succ HK.out, HLB.out, HV.out]
                · intro j hj
                  by_cases hjk : j = k
                  · subst hjk; rw [HLB.out]; omega
                  · exact HA.out j (by omega)
              case measure => simp [intOf] <;> omega
        · have hg := getL_short (l := l) (k := k) hk10 (by rw [HL.out]; omega) HA.out
          have HG := Lib.hid (HR.out _ hg)
          clear hg
          go_wp2
          go_ret3
          refine Ret.mk ?_
          rw [HG.out]; rfl
      · have hg := getL_over (l := l) (by rw [HL.out]; omega) (fun j hj => HA.out j (by omega))
        have HG := Lib.hid (HR.out _ hg)
        clear hg
        go_wp2
        go_ret3
        refine Ret.mk ?_
        rw [HG.out]; rfl

set_option maxHeartbeats 400000 in
theorem vzig_any (a : Int) (w : World) (h1 : -9223372036854775808 ≤ a) (h2 : a ≤ 9223372036854775807) :
    Calls Tryz.prog 99 #[.int .i64 a] w (Ret (.int .u64 (zigN a)) w) := by
  have h := Lib.hid (zig_eq h1 h2)
  go_enter Tryz.func99, Tryz.ntmps99
  go_wp2
  go_ret
  refine Ret.mk ?_
  rw [← h.out]; rfl
set_option maxHeartbeats 400000 in
theorem vzag_any (v : Int) (w : World) (h1 : 0 ≤ v) (h2 : v ≤ 18446744073709551615) :
    Calls Tryz.prog 123 #[.int .u64 v] w (Ret (.int .i64 (zagN v)) w) := by
  have h := Lib.hid (zag_eq h1 h2)
  go_enter Tryz.func123, Tryz.ntmps123
  go_wp2
  go_ret
  refine Ret.mk ?_
  rw [← h.out]; rfl
set_option maxHeartbeats 400000 in
theorem rzig_any (a : Int) (w : World) (h1 : -9223372036854775808 ≤ a) (h2 : a ≤ 9223372036854775807) :
    Calls Tryz.prog 40 #[.int .i64 a] w (Ret (.int .u64 (zigN a)) w) := by
  by_cases h : a < 0
  · have e : zigN a = -2 * a - 1 := by unfold zigN; rw [if_pos h]
    rw [e]
    go_enter Tryz.func40, Tryz.ntmps40
    go_wp2
    go_ret
    exact Ret.mk (vint (by first | rfl | omega | (simp only [IntKind.wrap_u64, wrap64]; omega)))
  · have e : zigN a = 2 * a := by unfold zigN; rw [if_neg h]
    rw [e]
    go_enter Tryz.func40, Tryz.ntmps40
    go_wp2
    go_ret
    exact Ret.mk (vint (by first | rfl | omega | (simp only [IntKind.wrap_u64, wrap64]; omega)))
set_option maxHeartbeats 400000 in
theorem rzag_any (v : Int) (w : World) (h1 : 0 ≤ v) (h2 : v ≤ 18446744073709551615) :
    Calls Tryz.prog 117 #[.int .u64 v] w (Ret (.int .i64 (zagN v)) w) := by
  by_cases h : v % 2 = 1
  · have e : zagN v = -(v / 2) - 1 := by unfold zagN; rw [if_pos h]
    rw [e]
    have ht : (v % 2 == 1) = true := by simp [h]
    clear h
    go_enter Tryz.func117, Tryz.ntmps117
    go_wp2
    go_ret
    exact Ret.mk (vint (by first | rfl | omega | (simp only [wrap64]; omega)))
  · have e : zagN v = v / 2 := by unfold zagN; rw [if_neg h]
    rw [e]
    have ht : (v % 2 == 1) = false := by simp [h]
    clear h
    go_enter Tryz.func117, Tryz.ntmps117
    go_wp2
    go_ret
    exact Ret.mk (vint (by first | rfl | omega | (simp only [wrap64]; omega)))
theorem vget_is (s : ByteArray) (i : Int) (w : World) (hs : s.size ≤ maxLen) {a : Nat} {b : Int} {c : Nat} (h : getR s i = (a, b, c)) :
    Calls Tryz.prog 82 #[.string s, .int .i64 i] w (Ret (.tuple #[.int .u64 (a : Int), .int .i64 b, .int .i64 (c : Int)]) w) := by
  have := vget_any s i w hs
  rw [h] at this
  exact this
theorem vget_ok (s : ByteArray) (i : Int) (w : World) (hs : s.size ≤ maxLen) {a : Nat} {b : Int} (h : getR s i = (a, b, 0)) :
    Calls Tryz.prog 82 #[.string s, .int .i64 i] w (Ret (.tuple #[.int .u64 (a : Int), .int .i64 b, .int .i64 0]) w) := vget_is s i w hs h
set_option maxHeartbeats 400000 in
theorem rsz_any (n : Int) (w : World) : Calls Tryz.prog 92 #[.int .i64 n] w (Ret (.bool (decide (0 ≤ n ∧ n ≤ 4096))) w) := by
  by_cases h0 : n < 0
  · rw [decide_eq_false (by omega)]
    go_enter Tryz.func92, Tryz.ntmps92
    go_wp2
    go_ret
    exact Ret.mk rfl
  have hd0 : decide (0 ≤ n) = true := decide_eq_true (by omega)
  by_cases h1 : 4096 < n
  · rw [decide_eq_false (by omega)]
    have hd1 : decide (n ≤ 4096) = false := decide_eq_false (by omega)
    go_enter Tryz.func92, Tryz.ntmps92
    go_wp2
    go_ret
    exact Ret.mk (by rw [← hd1]; rfl)
  have hd1 : decide (n ≤ 4096) = true := decide_eq_true (by omega)
  rw [decide_eq_true (by omega)]
  go_enter Tryz.func92, Tryz.ntmps92
  go_wp2
  go_ret
  exact Ret.mk (by rw [← hd1]; rfl)
theorem rget_is (s : ByteArray) (i : Int) (w : World) (hs : s.size ≤ maxLen) {a : Nat} {b : Int} {c : Nat} (h : getR s i = (a, b, c)) :
    Calls Tryz.prog 63 #[.string s, .int .i64 i] w (Ret (.tuple #[.int .u64 (a : Int), .int .i64 b, .int .i64 (c : Int)]) w) := by
  have := rget_any s i w hs
  rw [h] at this
  exact this
theorem rget_ok (s : ByteArray) (i : Int) (w : World) (hs : s.size ≤ maxLen) {a : Nat} {b : Int} (h : getR s i = (a, b, 0)) :
    Calls Tryz.prog 63 #[.string s, .int .i64 i] w (Ret (.tuple #[.int .u64 (a : Int), .int .i64 b, .int .i64 0]) w) := rget_is s i w hs h
end Go.Proofs.YtbolbbngncnecaaGreat
