/- Bitmaps: lists of truth values as digits in base 2, and the number of ones. -/
import Derived.Test.YteodifbbgohkpaaBits
namespace Go.NU
open Go.RowKit Go.VB Go.BP

/-- A list of truth values as digits. -/
def d01 (l : List Bool) : List Nat := l.map Bool.toNat
theorem d01_len (l : List Bool) : (d01 l).length = l.length := List.length_map _
theorem d01_lt (l : List Bool) : ∀ x ∈ d01 l, x < 2 ^ 1 := by
  intro x hx
  simp only [d01, List.mem_map] at hx
  obtain ⟨b, _, rfl⟩ := hx
  cases b <;> decide
theorem d01_get {l : List Bool} {j : Nat} {b : Bool} (h : l[j]? = some b) : (d01 l).getD j 0 = b.toNat := by
  rw [List.getD_eq_getElem?_getD, d01, List.getElem?_map, h]; rfl
/-- The bitmap of a list. -/
def bmp (l : List Bool) : ByteArray := str (packed (d01 l) 1)
theorem bmp_size (l : List Bool) : (bmp l).size = (l.length + 7) / 8 := by
  rw [bmp, str_size, packed_len, d01_len, Nat.mul_one]
theorem bmp_big (l : List Bool) : big 1 (d01 l) < 2 ^ l.length := by
  have := big_lt (d01_lt l)
  rwa [d01_len, Nat.one_mul] at this
theorem bmp_num (l : List Bool) : num (bmp l) = big 1 (d01 l) := by
  unfold bmp packed
  rw [num_digs, d01_len]
  exact Nat.mod_eq_of_lt (Nat.lt_of_lt_of_le (bmp_big l) (Nat.pow_le_pow_right (by decide) (by omega)))
/-- Bit i of a number. -/
def bitN (N i : Nat) : Bool := decide (N / 2 ^ i % 2 = 1)
theorem bit_bmp {l : List Bool} {i : Nat} {b : Bool} (h : l[i]? = some b) : num (bmp l) / 2 ^ i % 2 = b.toNat := by
  have h1 := big_div (d01_lt l) i
  rw [d01_get h, Nat.one_mul] at h1
  rw [bmp_num]; exact h1
def bools (n N : Nat) : List Bool := (List.range n).map (bitN N)
theorem bools_len (n N : Nat) : (bools n N).length = n := by simp [bools]
theorem bools_get {n N i : Nat} (h : i < n) : (bools n N)[i]? = some (bitN N i) := by simp [bools, h]
theorem bools_succ (n N : Nat) : bools (n + 1) N = bools n N ++ [bitN N n] := by simp [bools, List.range_succ]
theorem bools_bmp (l : List Bool) : bools l.length (num (bmp l)) = l := by
  apply List.ext_getElem?
  intro i
  by_cases hi : i < l.length
  · have hb : l[i]? = some l[i] := List.getElem?_eq_getElem hi
    rw [bools_get hi, hb, bitN, bit_bmp hb]
    cases l[i] <;> rfl
  · rw [List.getElem?_eq_none (by rw [bools_len]; omega), List.getElem?_eq_none (by omega)]
theorem bools_set {n j N : Nat} (h : j < n) : (bools j N ++ List.replicate (n - j) false).set j (bitN N j) = bools (j + 1) N ++ List.replicate (n - (j + 1)) false := by
  obtain ⟨d, rfl⟩ : ∃ d, n = j + 1 + d := ⟨n - (j + 1), by omega⟩
  rw [List.set_append, if_neg (by rw [bools_len]; omega), bools_len, Nat.sub_self, show j + 1 + d - j = d + 1 from by omega, List.replicate_succ, List.set_cons_zero, bools_succ,
    show j + 1 + d - (j + 1) = d from by omega, List.append_assoc]
  rfl

/-- What Unpack finds. -/
def upk (s : ByteArray) (n : Int) : List Bool × Nat :=
  if n < 0 ∨ 4096 < n then ([], 4) else if s.size < (n.toNat + 7) / 8 then ([], 10) else
  if (n.toNat + 7) / 8 < s.size ∨ ¬ num s < 2 ^ n.toNat then ([], 2) else (bools n.toNat (num s), 0)
theorem upk_range {s : ByteArray} {n : Int} (h : n < 0 ∨ 4096 < n) : upk s n = ([], 4) := by unfold upk; rw [if_pos h]
theorem upk_short {s : ByteArray} {n : Nat} (hn : n ≤ 4096) (h : s.size < (n + 7) / 8) : upk s n = ([], 10) := by
  unfold upk; rw [if_neg (by omega), Int.toNat_natCast, if_pos h]
theorem upk_long {s : ByteArray} {n : Nat} (hn : n ≤ 4096) (h : (n + 7) / 8 < s.size) : upk s n = ([], 2) := by
  unfold upk; rw [if_neg (by omega), Int.toNat_natCast, if_neg (by omega), if_pos (.inl h)]
theorem upk_rest {s : ByteArray} {n : Nat} (hn : n ≤ 4096) (h : s.size = (n + 7) / 8) (hr : ¬ num s < 2 ^ n) : upk s n = ([], 2) := by
  unfold upk; rw [if_neg (by omega), Int.toNat_natCast, if_neg (by omega), if_pos (.inr hr)]
theorem upk_ok {s : ByteArray} {n : Nat} (hn : n ≤ 4096) (h : s.size = (n + 7) / 8) (hr : num s < 2 ^ n) : upk s n = (bools n (num s), 0) := by
  unfold upk; rw [if_neg (by omega), Int.toNat_natCast, if_neg (by omega), if_neg (by omega)]
theorem upk_bmp {l : List Bool} (h : l.length ≤ 4096) : upk (bmp l) l.length = (l, 0) := by
  rw [upk_ok h (bmp_size l) (by rw [bmp_num]; exact bmp_big l), bools_bmp]

/-! the number of ones -/
def ones (N : Nat) : Nat → Nat
  | 0 => 0
  | i + 1 => ones N i + N / 2 ^ i % 2
theorem ones_zero (N : Nat) : ones N 0 = 0 := rfl
theorem ones_succ (N i : Nat) : ones N (i + 1) = ones N i + N / 2 ^ i % 2 := rfl
theorem ones_le (N : Nat) : ∀ i, ones N i ≤ i
  | 0 => Nat.le_refl _
  | i + 1 => by
    have := ones_le N i
    have := Nat.mod_lt (N / 2 ^ i) (show 0 < 2 by decide)
    rw [ones_succ]; omega
theorem ones_add (N a : Nat) : ∀ b, ones N (a + b) = ones N a + ones (N / 2 ^ a) b
  | 0 => rfl
  | b + 1 => by
    rw [← Nat.add_assoc, ones_succ, ones_succ, ones_add N a b, Nat.div_div_eq_div_mul, ← Nat.pow_add, Nat.add_assoc]
theorem ones_mod (N a : Nat) : ∀ b, b ≤ a → ones (N % 2 ^ a) b = ones N b
  | 0, _ => rfl
  | b + 1, h => by
    have e : N % 2 ^ a / 2 ^ b % 2 = N / 2 ^ b % 2 := by
      obtain ⟨d, rfl⟩ : ∃ d, a = b + (d + 1) := ⟨a - b - 1, by omega⟩
      rw [Nat.pow_add, Nat.mod_mul_right_div_self]
      refine Nat.mod_mod_of_dvd _ ?_
      have : (2 : Nat) ^ 1 ∣ 2 ^ (d + 1) := Nat.pow_dvd_pow 2 (by omega)
      simpa using this
    rw [ones_succ, ones_succ, ones_mod N a b (by omega), e]
theorem ones_none (i : Nat) : ones 0 i = 0 := by
  induction i with
  | zero => rfl
  | succ i ih => rw [ones_succ, ih]; simp
theorem ones_byte (s : ByteArray) (j : Nat) : ones (num s) (8 * j) + ones (bN s j) 8 = ones (num s) (8 * (j + 1)) := by
  rw [Nat.mul_add, Nat.mul_one, ones_add, ← num_byte, ones_mod _ 8 8 (Nat.le_refl _)]
theorem ones_part (s : ByteArray) (j low : Nat) (h : low ≤ 8) : ones (num s) (8 * j) + ones (bN s j % 2 ^ low) 8 = ones (num s) (8 * j + low) := by
  obtain ⟨d, hd⟩ : ∃ d, 8 = low + d := ⟨8 - low, by omega⟩
  have e : ones (bN s j % 2 ^ low) 8 = ones (bN s j) low := by
    rw [hd, ones_add, ones_mod _ _ _ (Nat.le_refl _), Nat.div_eq_of_lt (Nat.mod_lt _ (Nat.two_pow_pos _)), ones_none, Nat.add_zero]
  rw [e, ones_add, ← num_byte, ones_mod _ 8 low h]
/-- The ones of a byte, its lowest bit first. -/
theorem ones_half {B : Nat} (h : B < 256) : ones B 8 = B % 2 + ones (B / 2) 8 := by
  have h1 := ones_add B 1 7
  have h2 := ones_succ (B / 2) 7
  have h3 : B / 2 / 2 ^ 7 = 0 := Nat.div_eq_of_lt (by omega)
  have h4 : ones B 1 = B % 2 := by simp [ones]
  rw [h3] at h2
  rw [show 1 + 7 = 8 from rfl, h4, Nat.pow_one] at h1
  simp at h2
  omega
theorem num_take (s : ByteArray) (k : Nat) (h : k ≤ s.size) : num (s.extract 0 k) = num s % 2 ^ (8 * k) := by
  obtain ⟨a, b, hs, ha⟩ : ∃ a b : List UInt8, s.data.toList = a ++ b ∧ a.length = k :=
    ⟨s.data.toList.take k, s.data.toList.drop k, (List.take_append_drop _ _).symm, by rw [List.length_take, size_list]; omega⟩
  have e1 : (s.extract 0 k).data.toList = a := by
    rw [extract_list, hs, Nat.sub_zero, List.drop_zero, ← ha, List.take_left]
  have h2 := big_lt (bytes_lt a)
  rw [List.length_map, ha] at h2
  unfold num
  rw [e1, hs, List.map_append, big_append, List.length_map, ha, Nat.add_mul_mod_self_left, Nat.mod_eq_of_lt h2]
theorem ones_take (s : ByteArray) (k : Nat) (h : k ≤ s.size) : ones (num (s.extract 0 k)) (8 * k) = ones (num s) (8 * k) := by
  rw [num_take s k h, ones_mod _ _ _ (Nat.le_refl _)]

/-- The number of zeros among the first i bits. -/
def zer (N i : Nat) : Nat := i - ones N i
theorem zer_ones (N i : Nat) : zer N i + ones N i = i := by have := ones_le N i; unfold zer; omega
theorem zer_succ (N i : Nat) : zer N (i + 1) = zer N i + (1 - N / 2 ^ i % 2) := by
  have := ones_le N i
  have := Nat.mod_lt (N / 2 ^ i) (show 0 < 2 by decide)
  unfold zer; rw [ones_succ]; omega
theorem zer_le (N : Nat) : ∀ i, zer N i ≤ i := fun i => by unfold zer; omega
theorem zer_mono (N : Nat) {i : Nat} : ∀ {j : Nat}, i ≤ j → zer N i ≤ zer N j
  | 0, h => by rw [show i = 0 by omega]; exact Nat.le_refl _
  | j + 1, h => by
    by_cases he : i = j + 1
    · rw [he]; exact Nat.le_refl _
    · have := zer_mono N (i := i) (j := j) (by omega)
      rw [zer_succ]; omega
/-- Where Rank counts to. -/
def clip (s : ByteArray) (i : Int) : Nat := min i.toNat (8 * s.size)
theorem clip_le (s : ByteArray) (i : Int) : clip s i ≤ 8 * s.size := Nat.min_le_right _ _
theorem clip_is (s : ByteArray) (i : Int) : min (max i 0) ((s.size : Int) * 8) = (clip s i : Int) := by unfold clip; omega
def rk (s : ByteArray) (i : Int) : Nat := zer (num s) (clip s i)
theorem rk_in {s : ByteArray} {i : Nat} (h : i ≤ 8 * s.size) : rk s i = zer (num s) i := by
  unfold rk clip; rw [Int.toNat_natCast, Nat.min_eq_left h]
end Go.NU
