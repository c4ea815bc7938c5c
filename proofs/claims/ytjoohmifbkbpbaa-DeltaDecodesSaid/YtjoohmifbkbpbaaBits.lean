/- Numbers as lists of digits in base 2^w: the plain facts behind packed numbers. -/
import Derived.Test.YtjoohmifbkbpbaaVarMath
namespace Go.BP
open Go.RowKit Go.VB

/-- The number whose digits in base 2^w are the list, the lowest first. -/
def big (w : Nat) : List Nat → Nat
  | [] => 0
  | x :: l => x + 2 ^ w * big w l
/-- The first n digits of N in base 2^w. -/
def digs (w n N : Nat) : List Nat := (List.range n).map fun i => N / 2 ^ (w * i) % 2 ^ w

theorem digs_len (w n N : Nat) : (digs w n N).length = n := by simp [digs]
theorem digs_get {w n N i : Nat} (h : i < n) : (digs w n N)[i]? = some (N / 2 ^ (w * i) % 2 ^ w) := by simp [digs, h]
theorem digs_lt (w n N : Nat) : ∀ x ∈ digs w n N, x < 2 ^ w := by
  intro x hx
  simp only [digs, List.mem_map] at hx
  obtain ⟨i, _, rfl⟩ := hx
  exact Nat.mod_lt _ (Nat.two_pow_pos w)
theorem digs_succ (w n N : Nat) : digs w (n + 1) N = digs w n N ++ [N / 2 ^ (w * n) % 2 ^ w] := by simp [digs, List.range_succ]

theorem big_nil (w : Nat) : big w [] = 0 := rfl
theorem big_one (w x : Nat) : big w [x] = x := by simp [big]
theorem big_append (w : Nat) (a b : List Nat) : big w (a ++ b) = big w a + 2 ^ (w * a.length) * big w b := by
  induction a with
  | nil => simp [big]
  | cons x a ih =>
    simp only [List.cons_append, big, ih, List.length_cons, Nat.mul_add, Nat.mul_one, Nat.pow_add]
    rw [← Nat.mul_assoc (2 ^ w), Nat.mul_comm (2 ^ w) (2 ^ (w * a.length))]
    omega
theorem big_snoc (w : Nat) (a : List Nat) (x : Nat) : big w (a ++ [x]) = big w a + x * 2 ^ (w * a.length) := by
  rw [big_append, big_one, Nat.mul_comm]
theorem big_lt {w : Nat} : ∀ {l : List Nat}, (∀ x ∈ l, x < 2 ^ w) → big w l < 2 ^ (w * l.length)
  | [], _ => by simp [big]
  | x :: l, h => by
    have h1 := h x (List.mem_cons_self ..)
    have h2 := big_lt (w := w) (l := l) (fun y hy => h y (List.mem_cons_of_mem _ hy))
    have e : 2 ^ (w * (l.length + 1)) = 2 ^ w * 2 ^ (w * l.length) := by rw [Nat.mul_add, Nat.mul_one, Nat.pow_add, Nat.mul_comm]
    simp only [big, List.length_cons, e]
    have h3 : 2 ^ w * (big w l + 1) ≤ 2 ^ w * 2 ^ (w * l.length) := Nat.mul_le_mul_left _ h2
    rw [Nat.mul_add, Nat.mul_one] at h3
    omega
theorem big_zeros (w n : Nat) : big w (List.replicate n 0) = 0 := by
  induction n with
  | zero => rfl
  | succ n ih => simp [List.replicate_succ, big, ih]
theorem big_digs (w n N : Nat) : big w (digs w n N) = N % 2 ^ (w * n) := by
  induction n with
  | zero => simp [digs, big, Nat.mod_one]
  | succ n ih =>
    rw [digs_succ, big_snoc, ih, digs_len, Nat.mul_add, Nat.mul_one, Nat.pow_add, Nat.mod_mul, Nat.mul_comm (2 ^ (w * n))]
theorem big_div {w : Nat} : ∀ {l : List Nat} (_ : ∀ x ∈ l, x < 2 ^ w) (i : Nat), big w l / 2 ^ (w * i) % 2 ^ w = l.getD i 0
  | [], _, i => by simp [big]
  | x :: l, h, 0 => by
    have h1 := h x (List.mem_cons_self ..)
    simp [big, Nat.add_mul_mod_self_left, Nat.mod_eq_of_lt h1]
  | x :: l, h, i + 1 => by
    have h1 := h x (List.mem_cons_self ..)
    have ih := big_div (w := w) (l := l) (fun y hy => h y (List.mem_cons_of_mem _ hy)) i
    have e : 2 ^ (w * (i + 1)) = 2 ^ w * 2 ^ (w * i) := by rw [Nat.mul_add, Nat.mul_one, Nat.pow_add, Nat.mul_comm]
    rw [big, e, ← Nat.div_div_eq_div_mul, Nat.add_mul_div_left _ _ (Nat.two_pow_pos w), Nat.div_eq_of_lt h1, Nat.zero_add, ih]
    simp
/-- A list of digits is told by its number and its length. -/
theorem digs_big {w : Nat} {l : List Nat} (h : ∀ x ∈ l, x < 2 ^ w) : digs w l.length (big w l) = l := by
  apply List.ext_getElem?
  intro i
  by_cases hi : i < l.length
  · rw [digs_get hi, big_div h, List.getD_eq_getElem?_getD, List.getElem?_eq_getElem hi]; rfl
  · rw [List.getElem?_eq_none (by rw [digs_len]; omega), List.getElem?_eq_none (by omega)]
theorem digs_of {w n N : Nat} {l : List Nat} (h : ∀ x ∈ l, x < 2 ^ w) (hn : l.length = n) (hN : big w l = N) : l = digs w n N := by
  subst hn; subst hN; exact (digs_big h).symm
theorem big_set {w : Nat} : ∀ {l : List Nat} {i : Nat} (_ : i < l.length) (y : Nat), big w (l.set i (l.getD i 0 + y)) = big w l + y * 2 ^ (w * i)
  | x :: l, 0, _, y => by simp [big]; omega
  | x :: l, i + 1, h, y => by
    have ih := big_set (w := w) (l := l) (i := i) (by simpa using h) y
    have e : 2 ^ (w * (i + 1)) = 2 ^ w * 2 ^ (w * i) := by rw [Nat.mul_add, Nat.mul_one, Nat.pow_add, Nat.mul_comm]
    simp only [List.set_cons_succ, big, List.getD_cons_succ, ih]
    rw [e, Nat.mul_add, Nat.mul_left_comm y, Nat.add_assoc]
theorem set_lt {w : Nat} {l : List Nat} {i y : Nat} (h : ∀ x ∈ l, x < 2 ^ w) (hy : y < 2 ^ w) : ∀ x ∈ l.set i y, x < 2 ^ w := by
  intro x hx
  rcases List.mem_or_eq_of_mem_set hx with h1 | h1
  · exact h x h1
  · subst h1; exact hy
theorem zeros_lt (w n : Nat) : ∀ x ∈ List.replicate n 0, x < 2 ^ w := by
  intro x hx
  rw [List.eq_of_mem_replicate hx]; exact Nat.two_pow_pos w
/-- What lies at digit i of a number below 2^(w i + r). -/
theorem digit_lt {w : Nat} {l : List Nat} (h : ∀ x ∈ l, x < 2 ^ w) {i r : Nat} (hb : big w l < 2 ^ (w * i + r)) : l.getD i 0 < 2 ^ r := by
  rw [← big_div h i]
  refine Nat.lt_of_le_of_lt (Nat.mod_le _ _) ?_
  rw [Nat.div_lt_iff_lt_mul (Nat.two_pow_pos _), ← Nat.pow_add, Nat.add_comm]
  exact hb

/-! one step of putting bits, of reading bits -/
/-- v 2^low mod 2^8, put at bit 8 i + low: v's lowest 8 - low bits. -/
theorem put_split (v low : Nat) (h : low ≤ 8) : v * 2 ^ low % 256 = v % 2 ^ (8 - low) * 2 ^ low := by
  have e : 256 = 2 ^ (8 - low) * 2 ^ low := by rw [← Nat.pow_add, show 8 - low + low = 8 from by omega]
  rw [e, Nat.mul_mod_mul_right]
theorem put_step (v B at' : Nat) (q low : Nat) (hat : at' = 8 * q + low) :
    B + v % 2 ^ (8 - low) * 2 ^ low * 2 ^ (8 * q) + v / 2 ^ (8 - low) * 2 ^ (at' + (8 - low)) = B + v * 2 ^ at' := by
  have e1 : v % 2 ^ (8 - low) * 2 ^ low * 2 ^ (8 * q) = v % 2 ^ (8 - low) * 2 ^ at' := by rw [Nat.mul_assoc, ← Nat.pow_add, hat, Nat.add_comm low]
  have e2 : v / 2 ^ (8 - low) * 2 ^ (at' + (8 - low)) = 2 ^ (8 - low) * (v / 2 ^ (8 - low)) * 2 ^ at' := by
    rw [Nat.add_comm at', Nat.pow_add, ← Nat.mul_assoc, Nat.mul_comm (v / 2 ^ (8 - low))]
  rw [e1, e2, Nat.add_assoc, ← Nat.add_mul, Nat.mod_add_div]
/-- Joining what was read with the next bits. -/
theorem get_step (N at' got : Nat) (r : Nat) : N / 2 ^ at' % 2 ^ got + N / 2 ^ (at' + got) % 2 ^ r * 2 ^ got = N / 2 ^ at' % 2 ^ (got + r) := by
  rw [Nat.pow_add, Nat.pow_add, Nat.mod_mul, ← Nat.div_div_eq_div_mul, Nat.mul_comm (2 ^ got)]
/-- The bits of a byte from low on. -/
theorem byte_shr (N q low : Nat) (h : low ≤ 8) : N / 2 ^ (8 * q) % 2 ^ 8 / 2 ^ low = N / 2 ^ (8 * q + low) % 2 ^ (8 - low) := by
  have e : (2 : Nat) ^ 8 = 2 ^ low * 2 ^ (8 - low) := by rw [← Nat.pow_add, show low + (8 - low) = 8 from by omega]
  rw [e, Nat.mod_mul_right_div_self, Nat.div_div_eq_div_mul, ← Nat.pow_add]

/-- The number of a text of bytes, the lowest first. -/
def num (s : ByteArray) : Nat := big 8 (s.data.toList.map (·.toNat))
theorem bytes_lt (l : List UInt8) : ∀ x ∈ l.map (·.toNat), x < 2 ^ 8 := by
  intro x hx
  simp only [List.mem_map] at hx
  obtain ⟨b, _, rfl⟩ := hx
  exact UInt8.toNat_lt b
theorem num_byte (s : ByteArray) (q : Nat) : num s / 2 ^ (8 * q) % 2 ^ 8 = bN s q := by
  unfold num
  rw [big_div (bytes_lt _), List.getD_eq_getElem?_getD, List.getElem?_map]
  unfold bN
  rw [List.getD_eq_getElem?_getD]
  cases s.data.toList[q]? <;> rfl
theorem num_lt (s : ByteArray) : num s < 2 ^ (8 * s.size) := by
  have := big_lt (bytes_lt s.data.toList)
  rwa [List.length_map, size_list] at this
theorem bytes_back {l : List Nat} (h : ∀ x ∈ l, x < 2 ^ 8) : (l.map UInt8.ofNat).map (·.toNat) = l := by
  rw [List.map_map]
  refine (List.map_congr_left fun x hx => ?_).trans (List.map_id l)
  exact Nat.mod_eq_of_lt (h x hx)
theorem num_str {l : List Nat} (h : ∀ x ∈ l, x < 2 ^ 8) : num (str (l.map UInt8.ofNat)) = big 8 l := by
  unfold num
  rw [str_toList, bytes_back h]
theorem num_digs (m N : Nat) : num (str ((digs 8 m N).map UInt8.ofNat)) = N % 2 ^ (8 * m) := by
  rw [num_str (digs_lt 8 m N), big_digs]
/-- A text is told by its number and its length. -/
theorem str_of_num {s : ByteArray} {m N : Nat} (hm : s.size = m) (hN : num s = N) : s = str ((digs 8 m N).map UInt8.ofNat) := by
  subst hN; subst hm
  have e := digs_big (bytes_lt s.data.toList)
  rw [List.length_map, size_list] at e
  show s = str ((digs 8 s.size (big 8 _)).map UInt8.ofNat)
  rw [e, List.map_map]
  rw [show (UInt8.ofNat ∘ fun x : UInt8 => x.toNat) = id from funext fun x => by simp, List.map_id]
  rfl

/-- No 1 behind the first bits. -/
theorem rest_zero {s : ByteArray} {used : Nat} (h : s.size = (used + 7) / 8) : num s < 2 ^ used ↔ (used % 8 = 0 ∨ bN s (used / 8) / 2 ^ (used % 8) = 0) := by
  have hlt := num_lt s
  obtain ⟨q, r, hq, hr, rfl⟩ : ∃ q r, used / 8 = q ∧ r < 8 ∧ used = 8 * q + r := ⟨used / 8, used % 8, rfl, by omega, by omega⟩
  rw [hq, show (8 * q + r) % 8 = r from by omega]
  by_cases hr0 : r = 0
  · subst hr0
    rw [h, show (8 * q + 0 + 7) / 8 = q from by omega] at hlt
    simp [hlt]
  · rw [h, show (8 * q + r + 7) / 8 = q + 1 from by omega, Nat.mul_add, Nat.pow_add] at hlt
    have hb := num_byte s q
    rw [Nat.mod_eq_of_lt (by rw [Nat.div_lt_iff_lt_mul (Nat.two_pow_pos _), Nat.mul_comm]; exact hlt)] at hb
    rw [← hb, Nat.div_div_eq_div_mul, ← Nat.pow_add, Nat.div_eq_zero_iff]
    have := Nat.two_pow_pos (8 * q + r)
    constructor
    · intro h; exact .inr (.inr h)
    · rintro (h | h | h)
      · omega
      · omega
      · exact h

/-! the number of binary digits -/
def wid (v : Nat) : Nat := if v = 0 then 0 else wid (v / 2) + 1
termination_by v
decreasing_by omega
theorem wid_zero : wid 0 = 0 := by rw [wid]; simp
theorem wid_pos {v : Nat} (h : 0 < v) : wid v = wid (v / 2) + 1 := by rw [wid, if_neg (by omega)]
theorem wid_le : ∀ (k v : Nat), wid v ≤ k ↔ v < 2 ^ k
  | 0, v => by
    by_cases h : v = 0
    · subst h; simp [wid_zero]
    · rw [wid_pos (by omega)]; simp; omega
  | k + 1, v => by
    by_cases h : v = 0
    · subst h; simp [wid_zero, Nat.two_pow_pos]
    · have := wid_le k (v / 2)
      rw [wid_pos (by omega), Nat.pow_succ]
      omega
theorem wid_64 {v : Nat} (h : v < 18446744073709551616) : wid v ≤ 64 := (wid_le 64 v).2 (by simpa using h)
theorem shr_zero (v w : Nat) : v / 2 ^ w = 0 ↔ v < 2 ^ w := by
  rw [Nat.div_eq_zero_iff]
  have := Nat.two_pow_pos w
  omega

/-! what the functions return -/
def needN (n w : Int) : Int := if n < 0 ∨ 4096 < n ∨ w < 0 ∨ 64 < w then 0 else (n * w + 7) / 8
theorem needN_out {n w : Int} (h : n < 0 ∨ 4096 < n ∨ w < 0 ∨ 64 < w) : needN n w = 0 := by unfold needN; rw [if_pos h]
theorem needN_in {n w : Nat} (hn : n ≤ 4096) (hw : w ≤ 64) : needN n w = ((n * w + 7) / 8 : Nat) := by
  unfold needN; rw [if_neg (by omega)]; push_cast; rfl
theorem need_le {n w : Nat} (hn : n ≤ 4096) (hw : w ≤ 64) : (n * w + 7) / 8 ≤ 32768 := by
  have : n * w ≤ 4096 * 64 := Nat.mul_le_mul hn hw
  omega
theorem needN_bd (n w : Int) : 0 ≤ needN n w ∧ needN n w ≤ 32768 := by
  by_cases h : n < 0 ∨ 4096 < n ∨ w < 0 ∨ 64 < w
  · rw [needN_out h]; omega
  · obtain ⟨a, rfl⟩ := Int.eq_ofNat_of_zero_le (show 0 ≤ n by omega)
    obtain ⟨b, rfl⟩ := Int.eq_ofNat_of_zero_le (show 0 ≤ w by omega)
    rw [needN_in (by omega) (by omega)]
    have := need_le (n := a) (w := b) (by omega) (by omega)
    omega
/-- The packed form. -/
def packed (l : List Nat) (w : Nat) : List UInt8 := (digs 8 ((l.length * w + 7) / 8) (big w l)).map UInt8.ofNat
theorem packed_len (l : List Nat) (w : Nat) : (packed l w).length = (l.length * w + 7) / 8 := by simp [packed, digs_len]
def packR (l : List Nat) (w : Int) : ByteArray × Nat :=
  if w < 0 ∨ 64 < w then (⟨#[]⟩, 4) else if 4096 < l.length then (⟨#[]⟩, 7) else if l.all (fun x => decide (x < 2 ^ w.toNat)) then (str (packed l w.toNat), 0) else (⟨#[]⟩, 8)
theorem packR_range {l : List Nat} {w : Int} (h : w < 0 ∨ 64 < w) : packR l w = (⟨#[]⟩, 4) := by unfold packR; rw [if_pos h]
theorem packR_full {l : List Nat} {w : Nat} (h : w ≤ 64) (hl : 4096 < l.length) : packR l w = (⟨#[]⟩, 7) := by unfold packR; rw [if_neg (by omega), if_pos hl]
theorem packR_ok {l : List Nat} {w : Nat} (h : w ≤ 64) (hl : l.length ≤ 4096) (hx : ∀ x ∈ l, x < 2 ^ w) : packR l w = (str (packed l w), 0) := by
  unfold packR
  rw [if_neg (by omega), if_neg (by omega), Int.toNat_natCast, if_pos (by simpa using hx)]
theorem packR_over {l : List Nat} {w : Nat} (h : w ≤ 64) (hl : l.length ≤ 4096) {x : Nat} (hm : x ∈ l) (hx : ¬ x < 2 ^ w) : packR l w = (⟨#[]⟩, 8) := by
  unfold packR
  rw [if_neg (by omega), if_neg (by omega), Int.toNat_natCast, if_neg (by simp; exact ⟨x, hm, by omega⟩)]
def unpackR (s : ByteArray) (n w : Int) : List Nat × Nat :=
  if n < 0 ∨ 4096 < n ∨ w < 0 ∨ 64 < w then ([], 4) else if (s.size : Int) < needN n w then ([], 10) else
  if needN n w < s.size ∨ ¬ num s < 2 ^ (n.toNat * w.toNat) then ([], 2) else (digs w.toNat n.toNat (num s), 0)
theorem unpackR_range {s : ByteArray} {n w : Int} (h : n < 0 ∨ 4096 < n ∨ w < 0 ∨ 64 < w) : unpackR s n w = ([], 4) := by unfold unpackR; rw [if_pos h]
theorem unpackR_short {s : ByteArray} {n w : Nat} (hn : n ≤ 4096) (hw : w ≤ 64) (h : s.size < (n * w + 7) / 8) : unpackR s n w = ([], 10) := by
  unfold unpackR; rw [if_neg (by omega), needN_in hn hw, if_pos (by omega)]
theorem unpackR_long {s : ByteArray} {n w : Nat} (hn : n ≤ 4096) (hw : w ≤ 64) (h : (n * w + 7) / 8 < s.size) : unpackR s n w = ([], 2) := by
  unfold unpackR; rw [if_neg (by omega), needN_in hn hw, if_neg (by omega), if_pos (by omega)]
theorem unpackR_rest {s : ByteArray} {n w : Nat} (hn : n ≤ 4096) (hw : w ≤ 64) (h : s.size = (n * w + 7) / 8) (hr : ¬ num s < 2 ^ (n * w)) : unpackR s n w = ([], 2) := by
  unfold unpackR; rw [if_neg (by omega), needN_in hn hw, if_neg (by omega), if_pos (by simp only [Int.toNat_natCast]; exact .inr hr)]
theorem unpackR_ok {s : ByteArray} {n w : Nat} (hn : n ≤ 4096) (hw : w ≤ 64) (h : s.size = (n * w + 7) / 8) (hr : num s < 2 ^ (n * w)) : unpackR s n w = (digs w n (num s), 0) := by
  unfold unpackR
  rw [if_neg (by omega), needN_in hn hw, if_neg (by omega), if_neg (by simp only [Int.toNat_natCast]; omega)]
  simp
/-- What was packed is unpacked. -/
theorem round_trip {l : List Nat} {w : Nat} (h : w ≤ 64) (hl : l.length ≤ 4096) (hx : ∀ x ∈ l, x < 2 ^ w) : unpackR (str (packed l w)) l.length w = (l, 0) := by
  have hb := big_lt hx
  have hm : w * l.length ≤ 8 * ((l.length * w + 7) / 8) := by rw [Nat.mul_comm]; omega
  have hb2 : big w l < 2 ^ (8 * ((l.length * w + 7) / 8)) := Nat.lt_of_lt_of_le hb (Nat.pow_le_pow_right (by decide) hm)
  have hN : num (str (packed l w)) = big w l := by
    unfold packed; rw [num_digs, Nat.mod_eq_of_lt hb2]
  rw [unpackR_ok hl h (by rw [str_size, packed_len]) (by rw [hN, Nat.mul_comm]; exact hb), hN, digs_big hx]
end Go.BP
