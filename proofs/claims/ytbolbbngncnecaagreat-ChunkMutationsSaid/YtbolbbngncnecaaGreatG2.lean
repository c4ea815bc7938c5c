/- Several texts in one: Bits BitW1 BitW2 BitW3 BitW4 BitW5. -/
import Derived.Test.YtbolbbngncnecaaGreatG1
import Derived.Test.YtbolbbngncnecaaGreatG0
import Derived.RegionTactic
import Derived.ChangeAlike
/- Numbers as lists of digits in base 2^w: the plain facts behind packed numbers. -/
namespace Go.BP
open Go.RowKit Go.VB

/-- The number whose digits in base 2^w are the list, the lowest first. -/
def big (w : Nat) : List Nat → Nat
  | [] => 0
  | x :: l => x + 2 ^ w * big w l
/-- The first n digits of N in base 2^w. -/
def digs (w n N : Nat) : List Nat := (List.range n).map fun i => N / 2 ^ (w * i) % 2 ^ w

theorem digs_len (w n N : Nat) : (digs w n N).length = n := by simp [digs]
theorem digs_get {w n N i : Nat} (h : i < n) : (digs w n N)[i]? = some (N / 2 ^ (w * i) % 2 ^ w) := by simp [digs, h]
theorem digs_lt (w n N : Nat) : ∀ x ∈ digs w n N, x < 2 ^ w := by
  intro x hx
  simp only [digs, List.mem_map] at hx
  obtain ⟨i, _, rfl⟩ := hx
  exact Nat.mod_lt _ (Nat.two_pow_pos w)
theorem digs_succ (w n N : Nat) : digs w (n + 1) N = digs w n N ++ [N / 2 ^ (w * n) % 2 ^ w] := by simp [digs, List.range_succ]

theorem big_nil (w : Nat) : big w [] = 0 := rfl
theorem big_one (w x : Nat) : big w [x] = x := by simp [big]
theorem big_append (w : Nat) (a b : List Nat) : big w (a ++ b) = big w a + 2 ^ (w * a.length) * big w b := by
  induction a with
  | nil => simp [big]
  | cons x a ih =>
    simp only [List.cons_append, big, ih, List.length_cons, Nat.mul_add, Nat.mul_one, Nat.pow_add]
    rw [← Nat.mul_assoc (2 ^ w), Nat.mul_comm (2 ^ w) (2 ^ (w * a.length))]
    omega
theorem big_snoc (w : Nat) (a : List Nat) (x : Nat) : big w (a ++ [x]) = big w a + x * 2 ^ (w * a.length) := by
  rw [big_append, big_one, Nat.mul_comm]
theorem big_lt {w : Nat} : ∀ {l : List Nat}, (∀ x ∈ l, x < 2 ^ w) → big w l < 2 ^ (w * l.length)
  | [], _ => by simp [big]
  | x :: l, h => by
    have h1 := h x (List.mem_cons_self ..)
    have h2 := big_lt (w := w) (l := l) (fun y hy => h y (List.mem_cons_of_mem _ hy))
    have e : 2 ^ (w * (l.length + 1)) = 2 ^ w * 2 ^ (w * l.length) := by rw [Nat.mul_add, Nat.mul_one, Nat.pow_add, Nat.mul_comm]
    simp only [big, List.length_cons, e]
    have h3 : 2 ^ w * (big w l + 1) ≤ 2 ^ w * 2 ^ (w * l.length) := Nat.mul_le_mul_left _ h2
    rw [Nat.mul_add, Nat.mul_one] at h3
    omega
theorem big_zeros (w n : Nat) : big w (List.replicate n 0) = 0 := by
  induction n with
  | zero => rfl
  | succ n ih => simp [List.replicate_succ, big, ih]
theorem big_digs (w n N : Nat) : big w (digs w n N) = N % 2 ^ (w * n) := by
  induction n with
  | zero => simp [digs, big, Nat.mod_one]
  | succ n ih =>
    rw [digs_succ, big_snoc, ih, digs_len, Nat.mul_add, Nat.mul_one, Nat.pow_add, Nat.mod_mul, Nat.mul_comm (2 ^ (w * n))]
theorem big_div {w : Nat} : ∀ {l : List Nat} (_ : ∀ x ∈ l, x < 2 ^ w) (i : Nat), big w l / 2 ^ (w * i) % 2 ^ w = l.getD i 0
  | [], _, i => by simp [big]
  | x :: l, h, 0 => by
    have h1 := h x (List.mem_cons_self ..)
    simp [big, Nat.add_mul_mod_self_left, Nat.mod_eq_of_lt h1]
  | x :: l, h, i + 1 => by
    have h1 := h x (List.mem_cons_self ..)
    have ih := big_div (w := w) (l := l) (fun y hy => h y (List.mem_cons_of_mem _ hy)) i
    have e : 2 ^ (w * (i + 1)) = 2 ^ w * 2 ^ (w * i) := by rw [Nat.mul_add, Nat.mul_one, Nat.pow_add, Nat.mul_comm]
    rw [big, e, ← Nat.div_div_eq_div_mul, Nat.add_mul_div_left _ _ (Nat.two_pow_pos w), Nat.div_eq_of_lt h1, Nat.zero_add, ih]
    simp
/-- A list of digits is told by its number and its length. -/
theorem digs_big {w : Nat} {l : List Nat} (h : ∀ x ∈ l, x < 2 ^ w) : digs w l.length (big w l) = l := by
  apply List.ext_getElem?
  intro i
  by_cases hi : i < l.length
  · rw [digs_get hi, big_div h, List.getD_eq_getElem?_getD, List.getElem?_eq_getElem hi]; rfl
  · rw [List.getElem?_eq_none (by rw [digs_len]; omega), List.getElem?_eq_none (by omega)]
theorem digs_of {w n N : Nat} {l : List Nat} (h : ∀ x ∈ l, x < 2 ^ w) (hn : l.length = n) (hN : big w l = N) : l = digs w n N := by
  subst hn; subst hN; exact (digs_big h).symm
theorem big_set {w : Nat} : ∀ {l : List Nat} {i : Nat} (_ : i < l.length) (y : Nat), big w (l.set i (l.getD i 0 + y)) = big w l + y * 2 ^ (w * i)
  | x :: l, 0, _, y => by simp [big]; omega
  | x :: l, i + 1, h, y => by
    have ih := big_set (w := w) (l := l) (i := i) (by simpa using h) y
    have e : 2 ^ (w * (i + 1)) = 2 ^ w * 2 ^ (w * i) := by rw [Nat.mul_add, Nat.mul_one, Nat.pow_add, Nat.mul_comm]
    simp only [List.set_cons_succ, big, List.getD_cons_succ, ih]
    rw [e, Nat.mul_add, Nat.mul_left_comm y, Nat.add_assoc]
theorem set_lt {w : Nat} {l : List Nat} {i y : Nat} (h : ∀ x ∈ l, x < 2 ^ w) (hy : y < 2 ^ w) : ∀ x ∈ l.set i y, x < 2 ^ w := by
  intro x hx
  rcases List.mem_or_eq_of_mem_set hx with h1 | h1
  · exact h x h1
  · subst h1; exact hy
theorem zeros_lt (w n : Nat) : ∀ x ∈ List.replicate n 0, x < 2 ^ w := by
  intro x hx
  rw [List.eq_of_mem_replicate hx]; exact Nat.two_pow_pos w
/-- What lies at digit i of a number below 2^(w i + r). -/
theorem digit_lt {w : Nat} {l : List Nat} (h : ∀ x ∈ l, x < 2 ^ w) {i r : Nat} (hb : big w l < 2 ^ (w * i + r)) : l.getD i 0 < 2 ^ r := by
  rw [← big_div h i]
  refine Nat.lt_of_le_of_lt (Nat.mod_le _ _) ?_
  rw [Nat.div_lt_iff_lt_mul (Nat.two_pow_pos _), ← Nat.pow_add, Nat.add_comm]
  exact hb

/-! one step of putting bits, of reading bits -/
/-- v 2^low mod 2^8, put at bit 8 i + low: v's lowest 8 - low bits. -/
theorem put_split (v low : Nat) (h : low ≤ 8) : v * 2 ^ low % 256 = v % 2 ^ (8 - low) * 2 ^ low := by
  have e : 256 = 2 ^ (8 - low) * 2 ^ low := by rw [← Nat.pow_add, show 8 - low + low = 8 from by omega]
  rw [e, Nat.mul_mod_mul_right]
theorem put_step (v B at' : Nat) (q low : Nat) (hat : at' = 8 * q + low) :
    B + v % 2 ^ (8 - low) * 2 ^ low * 2 ^ (8 * q) + v / 2 ^ (8 - low) * 2 ^ (at' + (8 - low)) = B + v * 2 ^ at' := by
  have e1 : v % 2 ^ (8 - low) * 2 ^ low * 2 ^ (8 * q) = v % 2 ^ (8 - low) * 2 ^ at' := by rw [Nat.mul_assoc, ← Nat.pow_add, hat, Nat.add_comm low]
  have e2 : v / 2 ^ (8 - low) * 2 ^ (at' + (8 - low)) = 2 ^ (8 - low) * (v / 2 ^ (8 - low)) * 2 ^ at' := by
    rw [Nat.add_comm at', Nat.pow_add, ← Nat.mul_assoc, Nat.mul_comm (v / 2 ^ (8 - low))]
  rw [e1, e2, Nat.add_assoc, ← Nat.add_mul, Nat.mod_add_div]
/-- Joining what was read with the next bits. -/
theorem get_step (N at' got : Nat) (r : Nat) : N / 2 ^ at' % 2 ^ got + N / 2 ^ (at' + got) % 2 ^ r * 2 ^ got = N / 2 ^ at' % 2 ^ (got + r) := by
  rw [Nat.pow_add, Nat.pow_add, Nat.mod_mul, ← Nat.div_div_eq_div_mul, Nat.mul_comm (2 ^ got)]
/-- The bits of a byte from low on. -/
theorem byte_shr (N q low : Nat) (h : low ≤ 8) : N / 2 ^ (8 * q) % 2 ^ 8 / 2 ^ low = N / 2 ^ (8 * q + low) % 2 ^ (8 - low) := by
  have e : (2 : Nat) ^ 8 = 2 ^ low * 2 ^ (8 - low) := by rw [← Nat.pow_add, show low + (8 - low) = 8 from by omega]
  rw [e, Nat.mod_mul_right_div_self, Nat.div_div_eq_div_mul, ← Nat.pow_add]

/-- The number of a text of bytes, the lowest first. -/
def num (s : ByteArray) : Nat := big 8 (s.data.toList.map (·.toNat))
theorem bytes_lt (l : List UInt8) : ∀ x ∈ l.map (·.toNat), x < 2 ^ 8 := by
  intro x hx
  simp only [List.mem_map] at hx
  obtain ⟨b, _, rfl⟩ := hx
  exact UInt8.toNat_lt b
theorem num_byte (s : ByteArray) (q : Nat) : num s / 2 ^ (8 * q) % 2 ^ 8 = bN s q := by
  unfold num
  rw [big_div (bytes_lt _), List.getD_eq_getElem?_getD, List.getElem?_map]
  unfold bN
  rw [List.getD_eq_getElem?_getD]
  cases s.data.toList[q]? <;> rfl
theorem num_lt (s : ByteArray) : num s < 2 ^ (8 * s.size) := by
  have := big_lt (bytes_lt s.data.toList)
  rwa [List.length_map, size_list] at this
theorem bytes_back {l : List Nat} (h : ∀ x ∈ l, x < 2 ^ 8) : (l.map UInt8.ofNat).map (·.toNat) = l := by
  rw [List.map_map]
  refine (List.map_congr_left fun x hx => ?_).trans (List.map_id l)
  exact Nat.mod_eq_of_lt (h x hx)
theorem num_str {l : List Nat} (h : ∀ x ∈ l, x < 2 ^ 8) : num (str (l.map UInt8.ofNat)) = big 8 l := by
  unfold num
  rw [str_toList, bytes_back h]
theorem num_digs (m N : Nat) : num (str ((digs 8 m N).map UInt8.ofNat)) = N % 2 ^ (8 * m) := by
  rw [num_str (digs_lt 8 m N), big_digs]
/-- A text is told by its number and its length. -/
theorem str_of_num {s : ByteArray} {m N : Nat} (hm : s.size = m) (hN : num s = N) : s = str ((digs 8 m N).map UInt8.ofNat) := by
  subst hN; subst hm
  have e := digs_big (bytes_lt s.data.toList)
  rw [List.length_map, size_list] at e
  show s = str ((digs 8 s.size (big 8 _)).map UInt8.ofNat)
  rw [e, List.map_map]
  rw [show (UInt8.ofNat ∘ fun x : UInt8 => x.toNat) = id from funext fun x => by simp, List.map_id]
  rfl

/-- No 1 behind the first bits. -/
theorem rest_zero {s : ByteArray} {used : Nat} (h : s.size = (used + 7) / 8) : num s < 2 ^ used ↔ (used % 8 = 0 ∨ bN s (used / 8) / 2 ^ (used % 8) = 0) := by
  have hlt := num_lt s
  obtain ⟨q, r, hq, hr, rfl⟩ : ∃ q r, used / 8 = q ∧ r < 8 ∧ used = 8 * q + r := ⟨used / 8, used % 8, rfl, by omega, by omega⟩
  rw [hq, show (8 * q + r) % 8 = r from by omega]
  by_cases hr0 : r = 0
  · subst hr0
    rw [h, show (8 * q + 0 + 7) / 8 = q from by omega] at hlt
    simp [hlt]
  · rw [h, show (8 * q + r + 7) / 8 = q + 1 from by omega, Nat.mul_add, Nat.pow_add] at hlt
    have hb := num_byte s q
    rw [Nat.mod_eq_of_lt (by rw [Nat.div_lt_iff_lt_mul (Nat.two_pow_pos _), Nat.mul_comm]; exact hlt)] at hb
    rw [← hb, Nat.div_div_eq_div_mul, ← Nat.pow_add, Nat.div_eq_zero_iff]
    have := Nat.two_pow_pos (8 * q + r)
    constructor
    · intro h; exact .inr (.inr h)
    · rintro (h | h | h)
      · omega
      · omega
      · exact h

/-! the number of binary digits -/
def wid (v : Nat) : Nat := if v = 0 then 0 else wid (v / 2) + 1
termination_by v
decreasing_by omega
theorem wid_zero : wid 0 = 0 := by rw [wid]; simp
theorem wid_pos {v : Nat} (h : 0 < v) : wid v = wid (v / 2) + 1 := by rw [wid, if_neg (by omega)]
theorem wid_le : ∀ (k v : Nat), wid v ≤ k ↔ v < 2 ^ k
  | 0, v => by
    by_cases h : v = 0
    · subst h; simp [wid_zero]
    · rw [wid_pos (by omega)]; simp; omega
  | k + 1, v => by
    by_cases h : v = 0
    · subst h; simp [wid_zero, Nat.two_pow_pos]
    · have := wid_le k (v / 2)
      rw [wid_pos (by omega), Nat.pow_succ]
      omega
theorem wid_64 {v : Nat} (h : v < 18446744073709551616) : wid v ≤ 64 := (wid_le 64 v).2 (by simpa using h)
theorem shr_zero (v w : Nat) : v / 2 ^ w = 0 ↔ v < 2 ^ w := by
  rw [Nat.div_eq_zero_iff]
  have := Nat.two_pow_pos w
  omega

/-! what the functions return -/
def needN (n w : Int) : Int := if n < 0 ∨ 4096 < n ∨ w < 0 ∨ 64 < w then 0 else (n * w + 7) / 8
theorem needN_out {n w : Int} (h : n < 0 ∨ 4096 < n ∨ w < 0 ∨ 64 < w) : needN n w = 0 := by unfold needN; rw [if_pos h]
theorem needN_in {n w : Nat} (hn : n ≤ 4096) (hw : w ≤ 64) : needN n w = ((n * w + 7) / 8 : Nat) := by
  unfold needN; rw [if_neg (by omega)]; push_cast; rfl
theorem need_le {n w : Nat} (hn : n ≤ 4096) (hw : w ≤ 64) : (n * w + 7) / 8 ≤ 32768 := by
  have : n * w ≤ 4096 * 64 := Nat.mul_le_mul hn hw
  omega
theorem needN_bd (n w : Int) : 0 ≤ needN n w ∧ needN n w ≤ 32768 := by
  by_cases h : n < 0 ∨ 4096 < n ∨ w < 0 ∨ 64 < w
  · rw [needN_out h]; omega
  · obtain ⟨a, rfl⟩ := Int.eq_ofNat_of_zero_le (show 0 ≤ n by omega)
    obtain ⟨b, rfl⟩ := Int.eq_ofNat_of_zero_le (show 0 ≤ w by omega)
    rw [needN_in (by omega) (by omega)]
    have := need_le (n := a) (w := b) (by omega) (by omega)
    omega
/-- The packed form. -/
def packed (l : List Nat) (w : Nat) : List UInt8 := (digs 8 ((l.length * w + 7) / 8) (big w l)).map UInt8.ofNat
theorem packed_len (l : List Nat) (w : Nat) : (packed l w).length = (l.length * w + 7) / 8 := by simp [packed, digs_len]
def packR (l : List Nat) (w : Int) : ByteArray × Nat :=
  if w < 0 ∨ 64 < w then (⟨#[]⟩, 4) else if 4096 < l.length then (⟨#[]⟩, 7) else if l.all (fun x => decide (x < 2 ^ w.toNat)) then (str (packed l w.toNat), 0) else (⟨#[]⟩, 8)
theorem packR_range {l : List Nat} {w : Int} (h : w < 0 ∨ 64 < w) : packR l w = (⟨#[]⟩, 4) := by unfold packR; rw [if_pos h]
theorem packR_full {l : List Nat} {w : Nat} (h : w ≤ 64) (hl : 4096 < l.length) : packR l w = (⟨#[]⟩, 7) := by unfold packR; rw [if_neg (by omega), if_pos hl]
theorem packR_ok {l : List Nat} {w : Nat} (h : w ≤ 64) (hl : l.length ≤ 4096) (hx : ∀ x ∈ l, x < 2 ^ w) : packR l w = (str (packed l w), 0) := by
  unfold packR
  rw [if_neg (by omega), if_neg (by omega), Int.toNat_natCast, if_pos (by simpa using hx)]
theorem packR_over {l : List Nat} {w : Nat} (h : w ≤ 64) (hl : l.length ≤ 4096) {x : Nat} (hm : x ∈ l) (hx : ¬ x < 2 ^ w) : packR l w = (⟨#[]⟩, 8) := by
  unfold packR
  rw [if_neg (by omega), if_neg (by omega), Int.toNat_natCast, if_neg (by simp; exact ⟨x, hm, by omega⟩)]
def unpackR (s : ByteArray) (n w : Int) : List Nat × Nat :=
  if n < 0 ∨ 4096 < n ∨ w < 0 ∨ 64 < w then ([], 4) else if (s.size : Int) < needN n w then ([], 10) else
  if needN n w < s.size ∨ ¬ num s < 2 ^ (n.toNat * w.toNat) then ([], 2) else (digs w.toNat n.toNat (num s), 0)
theorem unpackR_range {s : ByteArray} {n w : Int} (h : n < 0 ∨ 4096 < n ∨ w < 0 ∨ 64 < w) : unpackR s n w = ([], 4) := by unfold unpackR; rw [if_pos h]
theorem unpackR_short {s : ByteArray} {n w : Nat} (hn : n ≤ 4096) (hw : w ≤ 64) (h : s.size < (n * w + 7) / 8) : unpackR s n w = ([], 10) := by
  unfold unpackR; rw [if_neg (by omega), needN_in hn hw, if_pos (by omega)]
theorem unpackR_long {s : ByteArray} {n w : Nat} (hn : n ≤ 4096) (hw : w ≤ 64) (h : (n * w + 7) / 8 < s.size) : unpackR s n w = ([], 2) := by
  unfold unpackR; rw [if_neg (by omega), needN_in hn hw, if_neg (by omega), if_pos (by omega)]
theorem unpackR_rest {s : ByteArray} {n w : Nat} (hn : n ≤ 4096) (hw : w ≤ 64) (h : s.size = (n * w + 7) / 8) (hr : ¬ num s < 2 ^ (n * w)) : unpackR s n w = ([], 2) := by
  unfold unpackR; rw [if_neg (by omega), needN_in hn hw, if_neg (by omega), if_pos (by simp only [Int.toNat_natCast]; exact .inr hr)]
theorem unpackR_ok {s : ByteArray} {n w : Nat} (hn : n ≤ 4096) (hw : w ≤ 64) (h : s.size = (n * w + 7) / 8) (hr : num s < 2 ^ (n * w)) : unpackR s n w = (digs w n (num s), 0) := by
  unfold unpackR
  rw [if_neg (by omega), needN_in hn hw, if_neg (by omega), if_neg (by simp only [Int.toNat_natCast]; omega)]
  simp
/-- What was packed is unpacked. -/
theorem round_trip {l : List Nat} {w : Nat} (h : w ≤ 64) (hl : l.length ≤ 4096) (hx : ∀ x ∈ l, x < 2 ^ w) : unpackR (str (packed l w)) l.length w = (l, 0) := by
  have hb := big_lt hx
  have hm : w * l.length ≤ 8 * ((l.length * w + 7) / 8) := by rw [Nat.mul_comm]; omega
  have hb2 : big w l < 2 ^ (8 * ((l.length * w + 7) / 8)) := Nat.lt_of_lt_of_le hb (Nat.pow_le_pow_right (by decide) hm)
  have hN : num (str (packed l w)) = big w l := by
    unfold packed; rw [num_digs, Nat.mod_eq_of_lt hb2]
  rw [unpackR_ok hl h (by rw [str_size, packed_len]) (by rw [hN, Nat.mul_comm]; exact hb), hN, digs_big hx]
end Go.BP

/- The walks over package bitpack and its reference: widths, needs, reading bits. -/
namespace Go.Proofs.YtbolbbngncnecaaGreat
open Go.RowKit Go.VB Go.VarM Go.BP

set_option maxHeartbeats 400000 in
theorem bwidth_any (n : Nat) (w : World) (h : n < 18446744073709551616) :
    Calls Tryz.prog 122 #[.int .u64 (n : Int)] w (Ret (.int .i64 (wid n : Nat)) w) := by
  have h64 := wid_64 h
  go_enter Tryz.func122, Tryz.ntmps122
  go_wp2
  go_loop [0, 3] (fun v s => ∃ (x k : Nat), v = .int .u64 x ∧ x < 18446744073709551616 ∧ s = .int .i64 k ∧ k + wid x = wid n)
    (fun v _ => (intOf v).toNat)
  case atStart => exact ⟨n, 0, rfl, h, rfl, by omega⟩
  case round =>
    obtain ⟨x, k, rfl, hx, rfl, hk⟩ := hrel
    have hle : k ≤ 64 := by omega
    have HK := Lib.hid hk; clear hk
    by_cases hz : 0 < x
    · have hd : ((x : Int) != 0) = true := by simp; omega
      go_wp2
      go_round
      case rel =>
        refine ⟨x / 2, k + 1, by go_num, by omega, by go_num, ?_⟩
        have := HK.out
        rw [wid_pos hz] at this
        omega
      case measure => simp [intOf] <;> omega
    · have hz0 : x = 0 := by omega
      subst hz0
      go_wp2
      go_ret
      refine Ret.mk ?_
      have := HK.out
      rw [wid_zero] at this
      rw [← this]; rfl
set_option maxHeartbeats 400000 in
theorem rwidth_any (n : Nat) (w : World) (h : n < 18446744073709551616) :
    Calls Tryz.prog 61 #[.int .u64 (n : Int)] w (Ret (.int .i64 (wid n : Nat)) w) := by
  have h64 := wid_64 h
  go_enter Tryz.func61, Tryz.ntmps61
  go_wp2
  go_loop [0, 3] (fun v s => ∃ (x k : Nat), v = .int .u64 x ∧ x < 18446744073709551616 ∧ s = .int .i64 k ∧ k + wid x = wid n)
    (fun v _ => (intOf v).toNat)
  case atStart => exact ⟨n, 0, rfl, h, rfl, by omega⟩
  case round =>
    obtain ⟨x, k, rfl, hx, rfl, hk⟩ := hrel
    have hle : k ≤ 64 := by omega
    have HK := Lib.hid hk; clear hk
    by_cases hz : 0 < x
    · go_wp2
      go_round
      case rel =>
        refine ⟨x / 2, k + 1, by go_num, by omega, by go_num, ?_⟩
        have := HK.out
        rw [wid_pos hz] at this
        omega
      case measure => simp [intOf] <;> omega
    · have hz0 : x = 0 := by omega
      subst hz0
      go_wp2
      go_ret
      refine Ret.mk ?_
      have := HK.out
      rw [wid_zero] at this
      rw [← this]; rfl
set_option maxHeartbeats 400000 in
theorem iscount_any (n : Int) (w : World) : Calls Tryz.prog 125 #[.int .i64 n] w (Ret (.bool (decide (0 ≤ n ∧ n ≤ 4096))) w) := by
  by_cases h0 : 0 ≤ n
  · go_enter Tryz.func125, Tryz.ntmps125
    go_wp2
    go_ret
    exact Ret.mk (by simp [h0])
  · go_enter Tryz.func125, Tryz.ntmps125
    go_wp2
    go_ret
    exact Ret.mk (by simp; omega)
set_option maxHeartbeats 400000 in
theorem iswidth_any (n : Int) (w : World) : Calls Tryz.prog 126 #[.int .i64 n] w (Ret (.bool (decide (0 ≤ n ∧ n ≤ 64))) w) := by
  by_cases h0 : 0 ≤ n
  · go_enter Tryz.func126, Tryz.ntmps126
    go_wp2
    go_ret
    exact Ret.mk (by simp [h0])
  · go_enter Tryz.func126, Tryz.ntmps126
    go_wp2
    go_ret
    exact Ret.mk (by simp; omega)
theorem or_get {V B low got : Nat} (hV : V < 2 ^ got) (hg : got ≤ 63) (hB : B < 256) :
    bits .or .u64 (V : Int) (IntKind.u64.wrap (IntKind.u64.wrap ((B : Int) / 2 ^ low) * 2 ^ got)) = ((V + B / 2 ^ low % 2 ^ (64 - got) * 2 ^ got : Nat) : Int) := by
  have h1 : B / 2 ^ low ≤ B := Nat.div_le_self _ _
  have e1 : ((B : Int) / 2 ^ low) = ((B / 2 ^ low : Nat) : Int) := by push_cast; rfl
  rw [e1]
  generalize B / 2 ^ low = x at *
  have hp : (2 : Nat) ^ 64 = 2 ^ (64 - got) * 2 ^ got := by rw [← Nat.pow_add, show 64 - got + got = 64 from by omega]
  have hx : x % 2 ^ (64 - got) < 2 ^ (64 - got) := Nat.mod_lt _ (Nat.two_pow_pos _)
  have hlt : x % 2 ^ (64 - got) * 2 ^ got + V < 2 ^ 64 := by
    rw [hp]
    have : (x % 2 ^ (64 - got) + 1) * 2 ^ got ≤ 2 ^ (64 - got) * 2 ^ got := Nat.mul_le_mul_right _ hx
    rw [Nat.add_mul] at this
    omega
  rw [show (2 : Nat) ^ 64 = 18446744073709551616 from by decide] at hlt hp
  have e2 : IntKind.u64.wrap (IntKind.u64.wrap (x : Int) * 2 ^ got) = ((x % 2 ^ (64 - got) * 2 ^ got : Nat) : Int) := by
    rw [IntWalk.u64_in (x : Int) ⟨by omega, by omega⟩, IntKind.wrap_u64]
    have : ((x : Int) * 2 ^ got) = ((x * 2 ^ got : Nat) : Int) := by push_cast; rfl
    rw [this, show (18446744073709551616 : Int) = ((18446744073709551616 : Nat) : Int) from rfl, ← Int.natCast_emod, hp, Nat.mul_mod_mul_right]
  rw [e2, u64_or_nat V _ (by omega) (by omega), Nat.or_comm, nat_join got _ V (Nat.mul_mod_left _ _) hV, Nat.add_comm]
theorem get_join (N at' got : Nat) (hg : got ≤ 63) : N / 2 ^ at' % 2 ^ got % 2 ^ 64 + N / 2 ^ (8 * ((at' + got) / 8)) % 2 ^ 8 / 2 ^ ((at' + got) % 8) % 2 ^ (64 - got) * 2 ^ got =
    N / 2 ^ at' % 2 ^ (got + (8 - (at' + got) % 8)) % 2 ^ 64 := by
  have hlo : N / 2 ^ at' % 2 ^ got < 2 ^ got := Nat.mod_lt _ (Nat.two_pow_pos _)
  have hp : (2 : Nat) ^ 64 = 2 ^ got * 2 ^ (64 - got) := by rw [← Nat.pow_add, show got + (64 - got) = 64 from by omega]
  have hle : (2 : Nat) ^ got ≤ 2 ^ 64 := Nat.pow_le_pow_right (by decide) (by omega)
  rw [byte_shr _ _ _ (by omega), show 8 * ((at' + got) / 8) + (at' + got) % 8 = at' + got from by omega, ← get_step N at' got]
  generalize N / 2 ^ (at' + got) % 2 ^ (8 - (at' + got) % 8) = x
  generalize N / 2 ^ at' % 2 ^ got = V at *
  rw [Nat.mod_eq_of_lt (show V < 2 ^ 64 from by omega), hp, Nat.mod_mul, Nat.add_mul_mod_self_right, Nat.mod_eq_of_lt hlo, Nat.add_mul_div_right _ _ (Nat.two_pow_pos _), Nat.div_eq_of_lt hlo, Nat.zero_add, Nat.mul_comm]
theorem mask_low (V k : Nat) (hk : k ≤ 64) (hV : V < 2 ^ 64) : bits .and .u64 (V : Int) (IntKind.u64.wrap (IntKind.u64.wrap (2 ^ k) - 1)) = ((V % 2 ^ k : Nat) : Int) := by
  rw [show (2 : Nat) ^ 64 = 18446744073709551616 from by decide] at hV
  have hp := Nat.two_pow_pos k
  have e0 : ((2 : Int) ^ k) = ((2 ^ k : Nat) : Int) := by push_cast; rfl
  have e : IntKind.u64.wrap (IntKind.u64.wrap (2 ^ k) - 1) = ((2 ^ k - 1 : Nat) : Int) := by
    rw [e0, IntKind.wrap_u64, IntKind.wrap_u64]
    by_cases h : k = 64
    · subst h; decide
    · have : 2 ^ k ≤ 2 ^ 63 := Nat.pow_le_pow_right (by decide) (by omega)
      rw [show (2 : Nat) ^ 63 = 9223372036854775808 from by decide] at this
      generalize 2 ^ k = p at *
      omega
  have hm : 2 ^ k - 1 < 18446744073709551616 := by
    have : 2 ^ k ≤ 2 ^ 64 := Nat.pow_le_pow_right (by decide) hk
    rw [show (2 : Nat) ^ 64 = 18446744073709551616 from by decide] at this
    omega
  rw [e, u64_and_nat V _ hV hm, Nat.and_two_pow_sub_one_eq_mod]
theorem get_low (N a got k : Nat) (h : k ≤ got) (hk : k ≤ 64) : N / 2 ^ a % 2 ^ got % 2 ^ 64 % 2 ^ k = N / 2 ^ a % 2 ^ k := by
  rw [Nat.mod_mod_of_dvd _ (Nat.pow_dvd_pow 2 hk), Nat.mod_mod_of_dvd _ (Nat.pow_dvd_pow 2 h)]
set_option maxHeartbeats 400000 in
theorem getbits_any (s : ByteArray) (at' k : Nat) (w : World) (hs : s.size ≤ 100000) (hk : k ≤ 64) (hat : at' + k ≤ 8 * s.size) :
    Calls Tryz.prog 129 #[.string s, .int .i64 at', .int .i64 k] w (Ret (.int .u64 (num s / 2 ^ at' % 2 ^ k : Nat)) w) := by
  have hb := get_bN s
  go_enter Tryz.func129, Tryz.ntmps129
  go_wp2
  go_loop [7, 8] (fun v g => ∃ (got : Nat), g = .int .i64 got ∧ got ≤ k + 7 ∧ v = .int .u64 (num s / 2 ^ at' % 2 ^ got % 2 ^ 64 : Nat)) (fun _ g => 100 - (intOf g).toNat)
  case atStart => exact ⟨0, rfl, by omega, by simp [Nat.mod_one]⟩
  case round =>
    obtain ⟨got, rfl, hg, rfl⟩ := hrel
    generalize hV : num s / 2 ^ at' % 2 ^ got % 2 ^ 64 = V
    have HV := Lib.hid hV; clear hV
    by_cases hlt : got < k
    · have hbl := bN_lt s ((at' + got) / 8)
      have hor := or_get (V := V) (B := bN s ((at' + got) / 8)) (low := (at' + got) % 8) (got := got) (by rw [← HV.out]; exact Nat.lt_of_le_of_lt (Nat.mod_le _ _) (Nat.mod_lt _ (Nat.two_pow_pos _))) (by omega) hbl
      have HO := Lib.hid hor; clear hor
      have hj := get_join (num s) at' got (by omega)
      rw [HV.out, num_byte] at hj
      have HJ := Lib.hid hj; clear hj
      go_wp2
      go_round
      case rel =>
        refine ⟨got + (8 - (at' + got) % 8), by congr 1; omega, by omega, ?_⟩
        rw [HO.out, HJ.out]
      case measure => simp [intOf] <;> omega
    · go_wp2
      go_ret
      refine Ret.mk (vint (Eq.trans (mask_low V k hk ?_) ?_))
      · rw [← HV.out]; exact Nat.mod_lt _ (by decide)
      · rw [← HV.out, get_low _ _ _ _ (by omega) hk]; push_cast; rfl
set_option maxHeartbeats 400000 in
theorem restzero_any (s : ByteArray) (used : Nat) (w : World) (hu : used ≤ 1000000) (hs : s.size = (used + 7) / 8) :
    Calls Tryz.prog 128 #[.string s, .int .i64 used] w (Ret (.bool (decide (num s < 2 ^ used))) w) := by
  have hb := get_bN s
  have hrz := Lib.hid (rest_zero hs)
  have hs1 : s.size ≤ 125001 := by omega
  have hbl := bN_lt s (used / 8)
  by_cases h0 : used % 8 = 0
  · have hd : ((used : Int) % 8 == 0) = true := by simp; omega
    have h0' := Lib.hid h0; clear h0
    have hs' := Lib.hid hs; clear hs
    go_enter Tryz.func128, Tryz.ntmps128
    go_wp2
    go_ret
    refine Ret.mk ?_
    show Value.bool _ = Value.bool _
    rw [decide_eq_true (hrz.out.2 (.inl h0'.out))]
  · have hd : ((used : Int) % 8 == 0) = false := by simp; omega
    have hin : used / 8 < s.size := by omega
    have h0' := Lib.hid h0; clear h0
    have hs' := Lib.hid hs; clear hs
    go_enter Tryz.func128, Tryz.ntmps128
    go_wp2
    go_ret
    refine Ret.mk ?_
    show Value.bool _ = Value.bool _
    refine congrArg Value.bool ?_
    have e : ((bN s (used / 8) : Int) / 2 ^ (used % 8)) = ((bN s (used / 8) / 2 ^ (used % 8) : Nat) : Int) := by push_cast; rfl
    rw [e, Bool.eq_iff_iff, beq_iff_eq, decide_eq_true_iff, hrz.out]
    have := h0'.out
    omega
set_option maxHeartbeats 400000 in
theorem bneed_any (n k : Int) (w : World) :
    Calls Tryz.prog 127 #[.int .i64 n, .int .i64 k] w (Ret (.int .i64 (needN n k)) w) := by
  by_cases hn : 0 ≤ n ∧ n ≤ 4096
  · have hc := fun w => iscount_any n w
    rw [decide_eq_true hn] at hc
    have HC := fun w => Lib.hid (hc w); clear hc
    by_cases hk : 0 ≤ k ∧ k ≤ 64
    · have hc := fun w => iswidth_any k w
      rw [decide_eq_true hk] at hc
      have HK := fun w => Lib.hid (hc w); clear hc
      obtain ⟨n, rfl⟩ := Int.eq_ofNat_of_zero_le hn.1
      obtain ⟨k, rfl⟩ := Int.eq_ofNat_of_zero_le hk.1
      obtain ⟨_, hn⟩ := hn
      obtain ⟨_, hk⟩ := hk
      rw [needN_in (by omega) (by omega)]
      have hm : n * k ≤ 4096 * 64 := Nat.mul_le_mul (by omega) (by omega)
      have hm1 : (n : Int) * (k : Int) ≤ 262144 := by rw [← Int.natCast_mul]; omega
      have hm2 : 0 ≤ (n : Int) * (k : Int) := by rw [← Int.natCast_mul]; omega
      go_enter Tryz.func127, Tryz.ntmps127
      go_wp2_with (first
        | (go_at_call 125; refine (HC _).out.mono ?_; rintro e w' ⟨rfl, rfl⟩)
        | (go_at_call 126; refine (HK _).out.mono ?_; rintro e w' ⟨rfl, rfl⟩))
      go_ret
      refine Ret.mk (vint ?_)
      push_cast; omega
    · have hc := fun w => iswidth_any k w
      rw [decide_eq_false hk] at hc
      have HK := fun w => Lib.hid (hc w); clear hc
      rw [needN_out (by omega)]
      go_enter Tryz.func127, Tryz.ntmps127
      go_wp2_with (first
        | (go_at_call 125; refine (HC _).out.mono ?_; rintro e w' ⟨rfl, rfl⟩)
        | (go_at_call 126; refine (HK _).out.mono ?_; rintro e w' ⟨rfl, rfl⟩))
      go_ret
      exact Ret.mk rfl
  · have hc := fun w => iscount_any n w
    rw [decide_eq_false hn] at hc
    have HC := fun w => Lib.hid (hc w); clear hc
    rw [needN_out (by omega)]
    go_enter Tryz.func127, Tryz.ntmps127
    go_wp2_with (first
      | (go_at_call 125; refine (HC _).out.mono ?_; rintro e w' ⟨rfl, rfl⟩))
    go_ret
    exact Ret.mk rfl
set_option maxHeartbeats 400000 in
theorem rneed_any (n k : Int) (w : World) :
    Calls Tryz.prog 91 #[.int .i64 n, .int .i64 k] w (Ret (.int .i64 (needN n k)) w) := by
  by_cases hn1 : n < 0
  · rw [needN_out (by omega)]
    go_enter Tryz.func91, Tryz.ntmps91
    go_wp2
    go_ret
    exact Ret.mk rfl
  · by_cases hn2 : 4096 < n
    · rw [needN_out (by omega)]
      go_enter Tryz.func91, Tryz.ntmps91
      go_wp2
      go_ret
      exact Ret.mk rfl
    · by_cases hk1 : k < 0
      · rw [needN_out (by omega)]
        go_enter Tryz.func91, Tryz.ntmps91
        go_wp2
        go_ret
        exact Ret.mk rfl
      · by_cases hk2 : 64 < k
        · rw [needN_out (by omega)]
          go_enter Tryz.func91, Tryz.ntmps91
          go_wp2
          go_ret
          exact Ret.mk rfl
        · obtain ⟨n, rfl⟩ := Int.eq_ofNat_of_zero_le (show 0 ≤ n by omega)
          obtain ⟨k, rfl⟩ := Int.eq_ofNat_of_zero_le (show 0 ≤ k by omega)
          rw [needN_in (by omega) (by omega)]
          have hm : n * k ≤ 4096 * 64 := Nat.mul_le_mul (by omega) (by omega)
          have hm1 : (n : Int) * (k : Int) ≤ 262144 := by rw [← Int.natCast_mul]; omega
          have hm2 : 0 ≤ (n : Int) * (k : Int) := by rw [← Int.natCast_mul]; omega
          go_enter Tryz.func91, Tryz.ntmps91
          go_wp2
          go_ret
          exact Ret.mk (vint rfl)
end Go.Proofs.YtbolbbngncnecaaGreat

/- The walks over package bitpack and its reference: packing. -/
namespace Go.Proofs.YtbolbbngncnecaaGreat
open Go.RowKit Go.VB Go.VarM Go.BP
theorem Tryz.infoU64 : (Tryz.prog.info? 47).map (fun i => (i.zero, i.size, i.bytes)) = some (some (.int .u64 0), 1, 8) := by kernel_rfl
theorem Tryz.infoB8 : (Tryz.prog.info? 5).map (fun i => (i.zero, i.size, i.bytes)) = some (some (.int .u8 0), 1, 1) := by kernel_rfl

theorem or_put {B y low : Nat} (hB : B < 2 ^ low) (hl : low < 8) : 
    bits .or .u8 (B : Int) (IntKind.u64.wrap ((y : Int) * 2 ^ low) % 256) = ((B + y % 2 ^ (8 - low) * 2 ^ low : Nat) : Int) ∧ B + y % 2 ^ (8 - low) * 2 ^ low < 2 ^ 8 := by
  have hp : (2 : Nat) ^ 8 = 2 ^ (8 - low) * 2 ^ low := by rw [← Nat.pow_add, show 8 - low + low = 8 from by omega]
  have hx : y % 2 ^ (8 - low) < 2 ^ (8 - low) := Nat.mod_lt _ (Nat.two_pow_pos _)
  have hlt : y % 2 ^ (8 - low) * 2 ^ low + B < 2 ^ 8 := by
    rw [hp]
    have : (y % 2 ^ (8 - low) + 1) * 2 ^ low ≤ 2 ^ (8 - low) * 2 ^ low := Nat.mul_le_mul_right _ hx
    rw [Nat.add_mul] at this
    omega
  have e : IntKind.u64.wrap ((y : Int) * 2 ^ low) % 256 = ((y % 2 ^ (8 - low) * 2 ^ low : Nat) : Int) := by
    have e0 : ((y : Int) * 2 ^ low) = ((y * 2 ^ low : Nat) : Int) := by push_cast; rfl
    rw [e0, IntKind.wrap_u64, ← put_split y low (by omega)]
    generalize y * 2 ^ low = z
    omega
  rw [show (2 : Nat) ^ 8 = 256 from by decide] at hlt hp ⊢
  refine ⟨?_, by omega⟩
  rw [e, u8_or_nat B _ (by omega) (by omega), Nat.or_comm, nat_join low _ B (Nat.mul_mod_left _ _) hB, Nat.add_comm]
theorem u8_set {w : World} {a : Addr} {x y : Int} (h : x = y) : w.setCell a (.int .u8 x) = w.setCell a (.int .u8 y) := by rw [h]

/-- The bytes have the bits of v from bit at' on. -/
def PutPost (base g c : Nat) (bs : List Nat) (N : Nat) (w : World) : Ending → World → Prop := fun e w' => e = .returned (.tuple #[]) ∧
  ∃ bs', RowN .u8 5 w' base g c bs' ∧ bs'.length = bs.length ∧ (∀ x ∈ bs', x < 2 ^ 8) ∧ big 8 bs' = N ∧ Below base w w'
set_option maxRecDepth 100000 in
set_option maxHeartbeats 1000000 in
theorem putbits_any (v at' base g c : Nat) (bs : List Nat) (w : World) (hv : v < 2 ^ 64) (hat : at' ≤ 900000) (hown : RowN .u8 5 w base g c bs) (hbs : ∀ x ∈ bs, x < 2 ^ 8) (hl : bs.length ≤ 100000)
    (hlo : big 8 bs < 2 ^ at') (hhi : big 8 bs + v * 2 ^ at' < 2 ^ (8 * bs.length)) :
    Calls Tryz.prog 133 #[.slice (some ⟨g, 0, none⟩) bs.length c, .int .i64 at', .int .u64 v] w (PutPost base g c bs (big 8 bs + v * 2 ^ at') w) := by
  have hbase := hown.lt.1
  generalize hN : big 8 bs + v * 2 ^ at' = N at hhi ⊢
  have HN := Lib.hid hN; clear hN
  go_enter Tryz.func133, Tryz.ntmps133
  go_wp2
  go_loopw [1, 2] (fun a x wr => ∃ (p y : Nat) (cs : List Nat), a = .int .i64 p ∧ x = .int .u64 y ∧ y < 2 ^ 64 ∧ p ≤ 1000000 ∧ RowN .u8 5 wr base g c cs ∧ cs.length = bs.length ∧ (∀ x ∈ cs, x < 2 ^ 8) ∧
    big 8 cs < 2 ^ p ∧ big 8 cs + y * 2 ^ p = N ∧ Below base w wr)
    (fun _ x _ => (intOf x).toNat)
  case atStart => exact ⟨at', v, bs, rfl, rfl, hv, by omega, hown, rfl, hbs, hlo, HN.out, Below.refl _ _⟩
  case round =>
    obtain ⟨p, y, cs, rfl, rfl, hy, hp, hrow, hlen, hcs, hlo', hsum, hbel⟩ := hrel
    have HS := Lib.hid hsum; have HL := Lib.hid hlen; clear hsum hlen
    by_cases hz : 0 < y
    · have hd : ((y : Int) != 0) = true := by simp; omega
      have hin : p / 8 < cs.length := by
        have h1 : 2 ^ p ≤ y * 2 ^ p := Nat.le_mul_of_pos_left _ hz
        have h2 : 2 ^ p < 2 ^ (8 * bs.length) := by have := HS.out; omega
        have h3 := (Nat.pow_lt_pow_iff_right (a := 2) (by decide)).1 h2
        rw [HL.out]; omega
      have hin2 : p / 8 < bs.length := by rw [← HL.out]; exact hin
      have hc := hrow.cell (p / 8) hin
      have hf := hrow.frozen (p / 8)
      have hpp : p = 8 * (p / 8) + p % 8 := by omega
      have hBl : cs.getD (p / 8) 0 < 2 ^ (p % 8) := digit_lt hcs (by rw [← hpp]; exact hlo')
      obtain ⟨hor, hfit⟩ := or_put (y := y) hBl (Nat.mod_lt p (by decide))
      have HO := Lib.hid (u8_set (w := wr) (a := ⟨g, p / 8, none⟩) hor); clear hor
      have hstep := put_step y (big 8 cs) p (p / 8) (p % 8) hpp
      have hset := big_set (w := 8) hin (y % 2 ^ (8 - p % 8) * 2 ^ (p % 8))
      have HT := Lib.hid hstep; have HE := Lib.hid hset; have HP := Lib.hid hpp; clear hstep hset hpp
      have hrow' := hrow.store (p / 8) (cs.getD (p / 8) 0 + y % 2 ^ (8 - p % 8) * 2 ^ (p % 8))
      have hlo2 : big 8 cs + y % 2 ^ (8 - p % 8) * 2 ^ (p % 8) * 2 ^ (8 * (p / 8)) < 2 ^ (p + (8 - p % 8)) := by
        have h1 : y % 2 ^ (8 - p % 8) * 2 ^ (p % 8) * 2 ^ (8 * (p / 8)) = y % 2 ^ (8 - p % 8) * 2 ^ p := by
          rw [Nat.mul_assoc, ← Nat.pow_add]; congr 2; omega
        have h2 : (y % 2 ^ (8 - p % 8) + 1) * 2 ^ p ≤ 2 ^ (8 - p % 8) * 2 ^ p := Nat.mul_le_mul_right _ (Nat.mod_lt _ (Nat.two_pow_pos _))
        rw [h1, Nat.pow_add, Nat.mul_comm (2 ^ p)]
        rw [Nat.add_mul] at h2
        omega
      have hdiv : y / 2 ^ (8 - p % 8) < y := Nat.div_lt_self hz (Nat.one_lt_two_pow (by omega))
      generalize hB : cs.getD (p / 8) 0 = B at *
      have HB := Lib.hid hB; clear hB
      go_wp2_with fail
      go_region
      go_wp2_with fail
      clear hc hf
      go_roundw
      case rel =>
        refine ⟨p + (8 - p % 8), y / 2 ^ (8 - p % 8), cs.set (p / 8) (B + y % 2 ^ (8 - p % 8) * 2 ^ (p % 8)), vint (by omega), vint (by push_cast; rfl), by omega, by omega, ?_, by rw [List.length_set]; exact HL.out, set_lt hcs hfit, ?_, ?_, ?_⟩
        · rw [HO.out]; exact hrow'.drew
        · rw [HE.out]; exact hlo2
        · rw [HE.out, HT.out]; exact HS.out
        · exact (hbel.setCell hbase _).drew
      case measure =>
        have e : ((y : Int) / 2 ^ (8 - p % 8)) = ((y / 2 ^ (8 - p % 8) : Nat) : Int) := by push_cast; rfl
        rw [e]
        simp only [intOf]
        omega
    · have hz0 : y = 0 := by omega
      subst hz0
      go_wp2_with fail
      go_end0
      refine ⟨rfl, cs, hrow, HL.out, hcs, ?_, hbel⟩
      have := HS.out
      omega
end Go.Proofs.YtbolbbngncnecaaGreat

/- The walks over Pack of package bitpack and of its reference. -/
namespace Go.Proofs.YtbolbbngncnecaaGreat
open Go.RowKit Go.VB Go.VarM Go.BP

theorem nvs_u8 {bs : List Nat} (h : ∀ x ∈ bs, x < 2 ^ 8) : (bs.map UInt8.ofNat).map bv = nvs .u8 bs := by
  rw [List.map_map]
  refine List.map_congr_left fun x hx => ?_
  have := h x hx
  simp only [Function.comp, bv]
  rw [UInt8.toNat_ofNat', Nat.mod_eq_of_lt this]
theorem RowN.ownB {e : TypeId} {w : World} {base g c : Nat} {bs : List Nat} (h : RowN .u8 e w base g c bs) (hb : ∀ x ∈ bs, x < 2 ^ 8) : OwnB e w base (.slice (some ⟨g, 0, none⟩) bs.length c) (bs.map UInt8.ofNat) := by
  unfold OwnB
  rw [nvs_u8 hb, List.length_map]; exact h
theorem get_mem {l : List Nat} {j : Nat} (h : j < l.length) : l.getD j 0 ∈ l := by
  rw [List.getD_eq_getElem?_getD, List.getElem?_eq_getElem h]; exact List.getElem_mem h
theorem take_snoc {l : List Nat} {j : Nat} (h : j < l.length) : l.take (j + 1) = l.take j ++ [l.getD j 0] := by
  rw [List.take_succ_eq_append_getElem h, List.getD_eq_getElem?_getD, List.getElem?_eq_getElem h]; rfl
theorem big_take {w : Nat} {l : List Nat} {j : Nat} (h : j < l.length) : big w (l.take (j + 1)) = big w (l.take j) + l.getD j 0 * 2 ^ (w * j) := by
  rw [take_snoc h, big_snoc, List.length_take, Nat.min_eq_left (by omega)]
theorem take_lt {w : Nat} {l : List Nat} {j : Nat} (h : j < l.length) (ht : ∀ x ∈ l.take j, x < 2 ^ w) (hx : l.getD j 0 < 2 ^ w) : ∀ x ∈ l.take (j + 1), x < 2 ^ w := by
  intro x hm
  rw [take_snoc h, List.mem_append] at hm
  rcases hm with hm | hm
  · exact ht x hm
  · rw [List.mem_singleton] at hm; subst hm; exact hx
theorem big_take_lt {w : Nat} {l : List Nat} {j : Nat} (h : j ≤ l.length) (ht : ∀ x ∈ l.take j, x < 2 ^ w) : big w (l.take j) < 2 ^ (w * j) := by
  have := big_lt ht
  rwa [List.length_take, Nat.min_eq_left h] at this
theorem pow_need {n w j : Nat} (h : j ≤ n) : (2 : Nat) ^ (w * j) ≤ 2 ^ (8 * ((n * w + 7) / 8)) := by
  refine Nat.pow_le_pow_right (by decide) ?_
  have : w * j ≤ n * w := by rw [Nat.mul_comm]; exact Nat.mul_le_mul_right _ h
  omega
theorem shr_ne {V k : Nat} : ((V : Int) / 2 ^ k != 0) = decide (¬ V < 2 ^ k) := by
  have e : ((V : Int) / 2 ^ k) = ((V / 2 ^ k : Nat) : Int) := by push_cast; rfl
  rw [e, Bool.eq_iff_iff, bne_iff_ne, decide_eq_true_iff]
  have := shr_zero V k
  omega
theorem putbits_at (a x : Int) (n v at' base g c : Nat) (bs : List Nat) (w : World) (ha : a = at') (hx : x = v) (hn : bs.length = n) (hv : v < 2 ^ 64) (hat : at' ≤ 900000) (hown : RowN .u8 5 w base g c bs) (hbs : ∀ x ∈ bs, x < 2 ^ 8) (hl : bs.length ≤ 100000)
    (hlo : big 8 bs < 2 ^ at') (hhi : big 8 bs + v * 2 ^ at' < 2 ^ (8 * bs.length)) :
    Calls Tryz.prog 133 #[.slice (some ⟨g, 0, none⟩) n c, .int .i64 a, .int .u64 x] w (PutPost base g c bs (big 8 bs + v * 2 ^ at') w) := by
  subst ha; subst hx; subst hn
  exact putbits_any v at' base g c bs w hv hat hown hbs hl hlo hhi
set_option maxRecDepth 100000 in
set_option maxHeartbeats 2000000 in
theorem bpack_any (vl : Value) (l : List Nat) (k : Int) (B : Nat) (w : World) (hr : RdN .u64 w B vl l) (hB : B ≤ w.heap.size) (hl : ∀ x ∈ l, x < 2 ^ 64) :
    Calls Tryz.prog 120 #[vl, .int .i64 k] w (RetSE (packR l k).1 (packR l k).2 w) := by
  obtain ⟨A, c, rfl, hc1, hc2, hr'⟩ := hr
  have hr : RdN .u64 w B (.slice A l.length c) l := ⟨A, c, rfl, hc1, hc2, hr'⟩
  clear hr'
  unfold maxLen at hc2
  have HR := Lib.hid hr; clear hr
  by_cases hk : 0 ≤ k ∧ k ≤ 64
  · have h1 := fun w => iswidth_any k w
    rw [decide_eq_true hk] at h1
    have HK := fun w => Lib.hid (h1 w); clear h1
    obtain ⟨k, rfl⟩ := Int.eq_ofNat_of_zero_le hk.1
    have hk64 : k ≤ 64 := by omega
    clear hk
    by_cases hn : l.length ≤ 4096
    · have h1 := fun w => iscount_any (l.length : Nat) w
      rw [decide_eq_true (by omega)] at h1
      have HC := fun w => Lib.hid (h1 w); clear h1
      have h1 := fun w => bneed_any (l.length : Nat) (k : Nat) w
      rw [needN_in hn hk64] at h1
      have HN := fun w => Lib.hid (h1 w); clear h1
      have hm := need_le hn hk64
      generalize hM : (l.length * k + 7) / 8 = m at HN hm
      have HM := Lib.hid hM; clear hM
      have hmk := run_makeN (P := Tryz.prog) Tryz.underlying30 Tryz.infoB8 m (by omega) (by unfold maxLen; omega)
      have hrow := RowN.made .u8 5 w w.heap.size m (Nat.le_refl _) (by unfold maxLen; omega)
      have hb0 : Below w.heap.size w (w.alloc (.cells (madeCells #[.int .u8 0] m) 5)) := (Below.refl _ _).alloc (Nat.le_refl _) _
      generalize hW : (w.alloc (.cells (madeCells #[.int .u8 0] m) 5)) = W1 at hrow hb0
      have hmk1 := hmk w
      rw [hW] at hmk1
      clear hmk hW
      go_enter Tryz.func120, Tryz.ntmps120
      go_wp2_with (first
        | (go_at_call 126; refine (HK _).out.mono ?_; rintro e w' ⟨rfl, rfl⟩)
        | (go_at_call 125; refine (HC _).out.mono ?_; rintro e w' ⟨rfl, rfl⟩)
        | (go_at_call 127; refine (HN _).out.mono ?_; rintro e w' ⟨rfl, rfl⟩))
      clear hmk1
      go_loopw [23] (fun i wr => ∃ (j : Nat) (bs : List Nat), i = .int .i64 j ∧ j ≤ l.length ∧ (∀ x ∈ l.take j, x < 2 ^ k) ∧ RowN .u8 5 wr w.heap.size w.heap.size m bs ∧ bs.length = m ∧ (∀ x ∈ bs, x < 2 ^ 8) ∧
        big 8 bs = big k (l.take j) ∧ Below w.heap.size w wr) (fun i _ => l.length - (intOf i).toNat)
      case atStart => exact ⟨0, _, rfl, Nat.zero_le _, by simp, hrow, by simp, zeros_lt 8 m, by rw [big_zeros]; rfl, hb0⟩
      case round =>
        obtain ⟨j, bs, rfl, hj, hx, hrw, hlen, hbs, hbig, hbel⟩ := hrel
        have HX := Lib.hid hx; have HL := Lib.hid hlen; have HG := Lib.hid hbig; clear hx hlen hbig
        by_cases hlt : j < l.length
        · obtain ⟨A', c', hv', _, _, hcell⟩ := HR.out.below (hbel.mono hB)
          cases hv'
          obtain ⟨ad, rfl, had, hcj⟩ := hcell j hlt
          clear hcell
          have hV64 := hl _ (get_mem hlt)
          have hbt := big_take (w := k) hlt
          have htl := fun h => take_lt (w := k) hlt HX.out h
          have hmem := get_mem hlt
          generalize l.getD j 0 = V at *
          have HBT := Lib.hid hbt; have HTL := Lib.hid htl; have HME := Lib.hid hmem; clear hbt htl hmem
          have hd := shr_ne (V := V) (k := k)
          by_cases hV : V < 2 ^ k
          · rw [decide_eq_false (by simpa using hV)] at hd
            have hjk : j * k ≤ 4096 * 64 := Nat.mul_le_mul (by omega) hk64
            have hjk1 : (j : Int) * (k : Int) ≤ 262144 := by rw [← Int.natCast_mul]; omega
            have hjk2 : 0 ≤ (j : Int) * (k : Int) := by rw [← Int.natCast_mul]; omega
            have hput := putbits_at ((j : Int) * (k : Int)) (V : Int) m V (k * j) w.heap.size w.heap.size m bs wr (by rw [Nat.mul_comm]; push_cast; rfl) rfl HL.out (by simpa using hV64) (by rw [Nat.mul_comm]; omega) hrw hbs (by rw [HL.out]; omega)
              (by rw [HG.out]; exact big_take_lt hj HX.out)
              (by rw [HG.out, HL.out, ← HBT.out, ← HM.out]; exact Nat.lt_of_lt_of_le (big_take_lt hlt (HTL.out hV)) (pow_need hlt))
            have HPUT := Lib.hid hput; clear hput
            go_wp2_with (go_at_call 133; refine HPUT.out.mono ?_; rintro e w' ⟨rfl, bs', hrw', hlen', hbs', hbig', hbel'⟩)
            go_roundw
            case rel => exact ⟨j + 1, bs', by go_num, hlt, HTL.out hV, hrw', hlen'.trans HL.out, hbs', by rw [hbig', HBT.out, HG.out], hbel.trans hbel'⟩
            case measure => simp [intOf] <;> omega
          · rw [decide_eq_true hV] at hd
            go_wp2
            go_ret2
            refine RetB.mk ?_ hbel
            rw [packR_over hk64 hn HME.out hV]; rfl
        · have hjl : j = l.length := by omega
          have hall : ∀ x ∈ l, x < 2 ^ k := fun x hm => HX.out x (by rw [hjl, List.take_length]; exact hm)
          have hbs2 : bs = digs 8 m (big k l) := digs_of hbs HL.out (by rw [HG.out, hjl, List.take_length])
          have HB2 := Lib.hid hbs2; clear hbs2
          have hcv := run_string_of_own (P := Tryz.prog) 30 9 5 Tryz.underlying30 Tryz.underlying5 Tryz.underlying9 (RowN.ownB hrw hbs)
          rw [HL.out] at hcv
          go_wp2
          go_ret2
          refine RetB.mk ?_ hbel
          rw [packR_ok hk64 hn hall]
          unfold packed
          rw [HM.out, ← HB2.out]; rfl
    · have h1 := fun w => iscount_any (l.length : Nat) w
      rw [decide_eq_false (by omega)] at h1
      have HC := fun w => Lib.hid (h1 w); clear h1
      rw [packR_full hk64 (by omega)]
      go_enter Tryz.func120, Tryz.ntmps120
      go_wp2_with (first
        | (go_at_call 126; refine (HK _).out.mono ?_; rintro e w' ⟨rfl, rfl⟩)
        | (go_at_call 125; refine (HC _).out.mono ?_; rintro e w' ⟨rfl, rfl⟩))
      go_ret2
      exact RetB.mk rfl (Below.refl _ _)
  · have h1 := fun w => iswidth_any k w
    rw [decide_eq_false hk] at h1
    have HK := fun w => Lib.hid (h1 w); clear h1
    rw [packR_range (by omega)]
    go_enter Tryz.func120, Tryz.ntmps120
    go_wp2_with (first
      | (go_at_call 126; refine (HK _).out.mono ?_; rintro e w' ⟨rfl, rfl⟩))
    go_ret2
    exact RetB.mk rfl (Below.refl _ _)
end Go.Proofs.YtbolbbngncnecaaGreat

/- The walk over Pack of the reference of package bitpack. -/
namespace Go.Proofs.YtbolbbngncnecaaGreat
open Go.RowKit Go.VB Go.VarM Go.BP

theorem bit_and {V t : Nat} (hV : V < 2 ^ 64) : bits .and .u64 ((V : Int) / 2 ^ t) 1 = ((V / 2 ^ t % 2 : Nat) : Int) := by
  rw [show (2 : Nat) ^ 64 = 18446744073709551616 from by decide] at hV
  have h1 : V / 2 ^ t ≤ V := Nat.div_le_self _ _
  have e : ((V : Int) / 2 ^ t) = ((V / 2 ^ t : Nat) : Int) := by push_cast; rfl
  rw [e]
  have := u64_and_nat (V / 2 ^ t) 1 (by omega) (by omega)
  rw [Nat.and_one_is_mod] at this
  exact this
theorem or_bit {B q : Nat} (hq : q < 8) (hB : B < 2 ^ q) : bits .or .u8 (B : Int) (IntKind.u8.wrap (2 ^ q)) = ((B + 2 ^ q : Nat) : Int) ∧ B + 2 ^ q < 2 ^ 8 := by
  have hp : 2 ^ q + 2 ^ q ≤ 2 ^ 8 := by
    have : 2 ^ (q + 1) ≤ 2 ^ 8 := Nat.pow_le_pow_right (by decide) (by omega)
    rw [Nat.pow_succ] at this; omega
  rw [show (2 : Nat) ^ 8 = 256 from by decide] at hp ⊢
  refine ⟨?_, by omega⟩
  have e : IntKind.u8.wrap (2 ^ q) = ((2 ^ q : Nat) : Int) := by
    have e0 : ((2 : Int) ^ q) = ((2 ^ q : Nat) : Int) := by push_cast; rfl
    have := Nat.two_pow_pos q
    rw [e0, IntWalk.u8_in _ ⟨by omega, by omega⟩]
  rw [e, u8_or_nat B _ (by omega) (by omega), Nat.or_comm, nat_join q (2 ^ q) B (Nat.mod_self _) hB, Nat.add_comm]

set_option maxRecDepth 100000 in
set_option maxHeartbeats 2000000 in
theorem rpack_any (vl : Value) (l : List Nat) (k : Int) (B : Nat) (w : World) (hr : RdN .u64 w B vl l) (hB : B ≤ w.heap.size) (hl : ∀ x ∈ l, x < 2 ^ 64) :
    Calls Tryz.prog 60 #[vl, .int .i64 k] w (RetSE (packR l k).1 (packR l k).2 w) := by
  obtain ⟨A, c, rfl, hc1, hc2, hr'⟩ := hr
  have hr : RdN .u64 w B (.slice A l.length c) l := ⟨A, c, rfl, hc1, hc2, hr'⟩
  clear hr'
  unfold maxLen at hc2
  have HR := Lib.hid hr; clear hr
  by_cases hk0 : k < 0
  · rw [packR_range (by omega)]
    go_enter Tryz.func60, Tryz.ntmps60
    go_wp2
    go_ret2
    exact RetB.mk rfl (Below.refl _ _)
  by_cases hk1 : 64 < k
  · rw [packR_range (by omega)]
    go_enter Tryz.func60, Tryz.ntmps60
    go_wp2
    go_ret2
    exact RetB.mk rfl (Below.refl _ _)
  obtain ⟨k, rfl⟩ := Int.eq_ofNat_of_zero_le (show 0 ≤ k by omega)
  have hk64 : k ≤ 64 := by omega
  clear hk0 hk1
  by_cases hn : l.length ≤ 4096
  · have h1 := fun w => rneed_any (l.length : Nat) (k : Nat) w
    rw [needN_in hn hk64] at h1
    have HN := fun w => Lib.hid (h1 w); clear h1
    have hm := need_le hn hk64
    generalize hM : (l.length * k + 7) / 8 = m at HN hm
    have HM := Lib.hid hM; clear hM
    have hmk := run_makeN (P := Tryz.prog) Tryz.underlying30 Tryz.infoB8 m (by omega) (by unfold maxLen; omega)
    have hrow := RowN.made .u8 5 w w.heap.size m (Nat.le_refl _) (by unfold maxLen; omega)
    have hb0 : Below w.heap.size w (w.alloc (.cells (madeCells #[.int .u8 0] m) 5)) := (Below.refl _ _).alloc (Nat.le_refl _) _
    generalize hW : (w.alloc (.cells (madeCells #[.int .u8 0] m) 5)) = W1 at hrow hb0
    have hmk1 := hmk w
    rw [hW] at hmk1
    clear hmk hW
    go_enter Tryz.func60, Tryz.ntmps60
    go_wp2_with (first
      | (go_at_call 91; refine (HN _).out.mono ?_; rintro e w' ⟨rfl, rfl⟩))
    clear hmk1
    go_loopw [27] (fun i wr => ∃ (j : Nat) (bs : List Nat), i = .int .i64 j ∧ j ≤ l.length ∧ (∀ x ∈ l.take j, x < 2 ^ k) ∧ RowN .u8 5 wr w.heap.size w.heap.size m bs ∧ bs.length = m ∧ (∀ x ∈ bs, x < 2 ^ 8) ∧
      big 8 bs = big k (l.take j) ∧ Below w.heap.size w wr) (fun i _ => l.length - (intOf i).toNat)
    case atStart => exact ⟨0, _, rfl, Nat.zero_le _, by simp, hrow, by simp, zeros_lt 8 m, by rw [big_zeros]; rfl, hb0⟩
    case round =>
      obtain ⟨j, bs, rfl, hj, hx, hrw, hlen, hbs, hbig, hbel⟩ := hrel
      have HX := Lib.hid hx; have HL := Lib.hid hlen; have HG := Lib.hid hbig; clear hx hlen hbig
      by_cases hlt : j < l.length
      · obtain ⟨A', c', hv', _, _, hcell⟩ := HR.out.below (hbel.mono hB)
        cases hv'
        obtain ⟨ad, rfl, had, hcj⟩ := hcell j hlt
        clear hcell
        have hV64 := hl _ (get_mem hlt)
        have hbt := big_take (w := k) hlt
        have htl := fun h => take_lt (w := k) hlt HX.out h
        have hmem := get_mem hlt
        have hlo := big_take_lt hj HX.out
        generalize l.getD j 0 = V at *
        have HBT := Lib.hid hbt; have HTL := Lib.hid htl; have HME := Lib.hid hmem; clear hbt htl hmem
        have hwi := wid_le k V
        have hw := fun w => rwidth_any V w (by simpa using hV64)
        have HW := fun w => Lib.hid (hw w); clear hw
        have hw64 := wid_64 (v := V) (by simpa using hV64)
        by_cases hV : V < 2 ^ k
        · have hwk := hwi.2 hV
          clear hwi
          have hjk : j * k ≤ 4096 * 64 := Nat.mul_le_mul (by omega) hk64
          have hjk1 : (j : Int) * (k : Int) ≤ 262144 := by rw [← Int.natCast_mul]; omega
          have hjk2 : 0 ≤ (j : Int) * (k : Int) := by rw [← Int.natCast_mul]; omega
          have htop : k * (j + 1) ≤ 8 * m := by
            have h1 : (j + 1) * k ≤ l.length * k := Nat.mul_le_mul_right _ hlt
            rw [Nat.mul_comm k, ← HM.out]; omega
          go_wp2_with (go_at_call 61; refine (HW _).out.mono ?_; rintro e w' ⟨rfl, rfl⟩)
          go_loopw [9] (fun q wq => ∃ (t : Nat) (cs : List Nat), q = .int .i64 t ∧ t ≤ k ∧ RowN .u8 5 wq w.heap.size w.heap.size m cs ∧ cs.length = m ∧ (∀ x ∈ cs, x < 2 ^ 8) ∧
            big 8 cs = big k (l.take j) + V % 2 ^ t * 2 ^ (k * j) ∧ Below w.heap.size w wq) (fun q _ => 64 - (intOf q).toNat)
          case atStart => exact ⟨0, bs, rfl, Nat.zero_le _, hrw, HL.out, hbs, by rw [HG.out]; simp [Nat.mod_one], hbel⟩
          case round =>
            obtain ⟨t, cs, rfl, ht, hrc, hlc, hcs, hbc, hbelq⟩ := hrel
            have HLC := Lib.hid hlc; have HBC := Lib.hid hbc; clear hlc hbc
            by_cases htk : t < k
            · have hba := bit_and (t := t) hV64
              have hin : (j * k + t) / 8 < cs.length := by
                rw [HLC.out]
                have h1 : j * k + t < 8 * m := by rw [Nat.mul_add, Nat.mul_one, Nat.mul_comm k] at htop; omega
                omega
              have hmod : V % 2 ^ (t + 1) = V % 2 ^ t + 2 ^ t * (V / 2 ^ t % 2) := by rw [Nat.pow_succ, Nat.mod_mul]
              have hat : k * j + t = 8 * ((j * k + t) / 8) + (j * k + t) % 8 := by rw [Nat.mul_comm k]; omega
              have hVt : V % 2 ^ t < 2 ^ t := Nat.mod_lt _ (Nat.two_pow_pos _)
              have hlow : big 8 cs < 2 ^ (8 * ((j * k + t) / 8) + (j * k + t) % 8) := by
                rw [HBC.out, ← hat, Nat.pow_add, Nat.mul_comm (2 ^ (k * j))]
                have : (V % 2 ^ t + 1) * 2 ^ (k * j) ≤ 2 ^ t * 2 ^ (k * j) := Nat.mul_le_mul_right _ hVt
                rw [Nat.add_mul] at this; omega
              have hc := hrc.cell _ hin
              have hf := hrc.frozen ((j * k + t) / 8)
              have hBl := digit_lt hcs hlow
              obtain ⟨hor, hfit⟩ := or_bit (Nat.mod_lt (j * k + t) (by decide)) hBl
              have hset := big_set (w := 8) hin (2 ^ ((j * k + t) % 8))
              have hpow : 2 ^ ((j * k + t) % 8) * 2 ^ (8 * ((j * k + t) / 8)) = 2 ^ t * 2 ^ (k * j) := by
                rw [← Nat.pow_add, ← Nat.pow_add, Nat.add_comm t, hat, Nat.add_comm]
              have hst := hrc.store ((j * k + t) / 8) (cs.getD ((j * k + t) / 8) 0 + 2 ^ ((j * k + t) % 8))
              rw [← hor] at hst
              have hin2 : (j * k + t) / 8 < m := by rw [← HLC.out]; exact hin
              have hin3 : ((j : Int) * k + t) / 8 < m := by rw [← Int.natCast_mul]; omega
              generalize cs.getD ((j * k + t) / 8) 0 = B0 at *
              have HMO := Lib.hid hmod; have HSE := Lib.hid hset; have HPO := Lib.hid hpow; have HOR := Lib.hid hor; have HAT := Lib.hid hat
              clear hmod hset hpow hor hat hlow hBl
              by_cases hb1 : V / 2 ^ t % 2 = 1
              · have hd : (bits .and .u64 ((V : Int) / 2 ^ t) 1 == 1) = true := by rw [hba, hb1]; rfl
                have HB1 := Lib.hid hb1; clear hba hb1
                go_wp2
                clear hd
                go_roundw
                case rel =>
                  refine ⟨t + 1, cs.set ((j * k + t) / 8) (B0 + 2 ^ ((j * k + t) % 8)), by go_num, htk, hst, by rw [List.length_set]; exact HLC.out, set_lt hcs hfit, ?_, hbelq.setCell (Nat.le_refl _) _⟩
                  rw [HSE.out, HBC.out, HPO.out, HMO.out, HB1.out, Nat.mul_one, Nat.add_mul, Nat.add_assoc]
                case measure => simp [intOf] <;> omega
              · have hb0 : V / 2 ^ t % 2 = 0 := by omega
                have hd : (bits .and .u64 ((V : Int) / 2 ^ t) 1 == 1) = false := by rw [hba, hb0]; rfl
                have HB1 := Lib.hid hb0; clear hba hb1 hb0
                go_wp2
                clear hd
                go_roundw
                case rel => exact ⟨t + 1, cs, by go_num, htk, hrc, HLC.out, hcs, by rw [HBC.out, HMO.out, HB1.out, Nat.mul_zero, Nat.add_zero], hbelq⟩
                case measure => simp [intOf] <;> omega
            · have htk' : t = k := by omega
              have hVk : V % 2 ^ t = V := by rw [htk']; exact Nat.mod_eq_of_lt hV
              have HVK := Lib.hid hVk; clear htk' hVk
              go_wp2
              go_roundw
              case rel => exact ⟨j + 1, cs, by go_num, hlt, HTL.out hV, hrc, HLC.out, hcs, by rw [HBT.out, HBC.out, HVK.out], hbelq⟩
              case measure => simp [intOf] <;> omega
        · have hwk : ¬ wid V ≤ k := fun h => hV (hwi.1 h)
          clear hwi
          go_wp2_with (go_at_call 61; refine (HW _).out.mono ?_; rintro e w' ⟨rfl, rfl⟩)
          go_ret2
          refine RetB.mk ?_ hbel
          rw [packR_over hk64 hn HME.out hV]; rfl
      · have hjl : j = l.length := by omega
        have hall : ∀ x ∈ l, x < 2 ^ k := fun x hm => HX.out x (by rw [hjl, List.take_length]; exact hm)
        have hbs2 : bs = digs 8 m (big k l) := digs_of hbs HL.out (by rw [HG.out, hjl, List.take_length])
        have HB2 := Lib.hid hbs2; clear hbs2
        have hcv := run_string_of_own (P := Tryz.prog) 30 9 5 Tryz.underlying30 Tryz.underlying5 Tryz.underlying9 (RowN.ownB hrw hbs)
        rw [HL.out] at hcv
        go_wp2
        go_ret2
        refine RetB.mk ?_ hbel
        rw [packR_ok hk64 hn hall]
        unfold packed
        rw [HM.out, ← HB2.out]; rfl
  · rw [packR_full hk64 (by omega)]
    go_enter Tryz.func60, Tryz.ntmps60
    go_wp2
    go_ret2
    exact RetB.mk rfl (Below.refl _ _)
end Go.Proofs.YtbolbbngncnecaaGreat

/- The walks over Unpack of package bitpack and of its reference. -/
namespace Go.BP
open Go.RowKit Go.VB
theorem digs_set {k n j N : Nat} (h : j < n) : (digs k j N ++ List.replicate (n - j) 0).set j (N / 2 ^ (k * j) % 2 ^ k) = digs k (j + 1) N ++ List.replicate (n - (j + 1)) 0 := by
  obtain ⟨d, rfl⟩ : ∃ d, n = j + 1 + d := ⟨n - (j + 1), by omega⟩
  rw [List.set_append, if_neg (by rw [digs_len]; omega), digs_len, Nat.sub_self, show j + 1 + d - j = d + 1 from by omega, List.replicate_succ, List.set_cons_zero, digs_succ,
    show j + 1 + d - (j + 1) = d from by omega, List.append_assoc]
  rfl
theorem bit_of_byte (s : ByteArray) (j : Nat) : bN s (j / 8) / 2 ^ (j % 8) % 2 = num s / 2 ^ j % 2 := by
  rw [← num_byte, byte_shr _ _ _ (by omega), show 8 * (j / 8) + j % 8 = j from by omega]
  exact Nat.mod_mod_of_dvd _ (by
    have : (2 : Nat) ^ 1 ∣ 2 ^ (8 - j % 8) := Nat.pow_dvd_pow 2 (by omega)
    simpa using this)
theorem mod_succ (N j : Nat) : N % 2 ^ (j + 1) = N % 2 ^ j + 2 ^ j * (N / 2 ^ j % 2) := by rw [Nat.pow_succ, Nat.mod_mul]
theorem bit_big {N j m : Nat} (h : N / 2 ^ j % 2 = 1) (hm : m ≤ j) : ¬ N < 2 ^ m := by
  intro hlt
  have h1 : N < 2 ^ j := Nat.lt_of_lt_of_le hlt (Nat.pow_le_pow_right (by decide) hm)
  rw [Nat.div_eq_of_lt h1] at h
  simp at h
theorem or_low {L b q k : Nat} (hL : L < 2 ^ q) (hb : b ≤ 1) (hq : q < k) (hk : k ≤ 64) : bits .or .u64 (L : Int) (IntKind.u64.wrap ((b : Int) * 2 ^ q)) = ((L + b * 2 ^ q : Nat) : Int) ∧ L + b * 2 ^ q < 2 ^ k := by
  have hp : 2 ^ q + 2 ^ q ≤ 2 ^ k := by
    have : 2 ^ (q + 1) ≤ 2 ^ k := Nat.pow_le_pow_right (by decide) (by omega)
    rw [Nat.pow_succ] at this; omega
  have hp64 : 2 ^ k ≤ 2 ^ 64 := Nat.pow_le_pow_right (by decide) hk
  rw [show (2 : Nat) ^ 64 = 18446744073709551616 from by decide] at hp64
  have hbq : b * 2 ^ q ≤ 1 * 2 ^ q := Nat.mul_le_mul_right _ hb
  refine ⟨?_, by omega⟩
  have e : IntKind.u64.wrap ((b : Int) * 2 ^ q) = ((b * 2 ^ q : Nat) : Int) := by
    have e0 : ((b : Int) * 2 ^ q) = ((b * 2 ^ q : Nat) : Int) := by push_cast; rfl
    rw [e0, IntWalk.u64_in _ ⟨by omega, by omega⟩]
  rw [e, u64_or_nat L _ (by omega) (by omega), Nat.or_comm, nat_join q _ L (Nat.mul_mod_left _ _) hL, Nat.add_comm]
end Go.BP
namespace Go.Proofs.YtbolbbngncnecaaGreat
open Go.RowKit Go.VB Go.VarM Go.BP
theorem getbits_at (s : ByteArray) (a : Int) (at' k x : Nat) (w : World) (ha : a = at') (hx : num s / 2 ^ at' % 2 ^ k = x) (hs : s.size ≤ 100000) (hk : k ≤ 64) (hat : at' + k ≤ 8 * s.size) :
    Calls Tryz.prog 129 #[.string s, .int .i64 a, .int .i64 k] w (Ret (.int .u64 x) w) := by
  subst ha; subst hx; exact getbits_any s at' k w hs hk hat
theorem restzero_at (s : ByteArray) (u : Int) (used : Nat) (b : Bool) (w : World) (hu' : u = used) (hb : decide (num s < 2 ^ used) = b) (hu : used ≤ 1000000) (hs : s.size = (used + 7) / 8) :
    Calls Tryz.prog 128 #[.string s, .int .i64 u] w (Ret (.bool b) w) := by
  subst hu'; subst hb; exact restzero_any s used w hu hs
set_option maxRecDepth 100000 in
set_option maxHeartbeats 2000000 in
theorem bunpack_any (s : ByteArray) (n k : Int) (w : World) :
    Calls Tryz.prog 110 #[.string s, .int .i64 n, .int .i64 k] w (RetNE .u64 47 (unpackR s n k).1 (unpackR s n k).2 w) := by
  by_cases hn : 0 ≤ n ∧ n ≤ 4096
  · have h1 := fun w => iscount_any n w
    rw [decide_eq_true hn] at h1
    have HC := fun w => Lib.hid (h1 w); clear h1
    by_cases hk : 0 ≤ k ∧ k ≤ 64
    · have h1 := fun w => iswidth_any k w
      rw [decide_eq_true hk] at h1
      have HK := fun w => Lib.hid (h1 w); clear h1
      obtain ⟨n, rfl⟩ := Int.eq_ofNat_of_zero_le hn.1
      obtain ⟨k, rfl⟩ := Int.eq_ofNat_of_zero_le hk.1
      have hn' : n ≤ 4096 := by omega
      have hk' : k ≤ 64 := by omega
      clear hn hk
      have h1 := fun w => bneed_any (n : Nat) (k : Nat) w
      rw [needN_in hn' hk'] at h1
      have HN := fun w => Lib.hid (h1 w); clear h1
      have hm := need_le hn' hk'
      have hnk : n * k ≤ 4096 * 64 := Nat.mul_le_mul hn' hk'
      have hnk1 : (n : Int) * (k : Int) ≤ 262144 := by rw [← Int.natCast_mul]; omega
      have hnk2 : 0 ≤ (n : Int) * (k : Int) := by rw [← Int.natCast_mul]; omega
      generalize hM : (n * k + 7) / 8 = m at HN hm
      have HM := Lib.hid hM; clear hM
      by_cases hlo : s.size < m
      · rw [unpackR_short hn' hk' (by rw [HM.out]; exact hlo)]
        go_enter Tryz.func110, Tryz.ntmps110
        go_wp2_with (first
          | (go_at_call 125; refine (HC _).out.mono ?_; rintro e w' ⟨rfl, rfl⟩)
          | (go_at_call 126; refine (HK _).out.mono ?_; rintro e w' ⟨rfl, rfl⟩)
          | (go_at_call 127; refine (HN _).out.mono ?_; rintro e w' ⟨rfl, rfl⟩))
        go_ret2
        exact RetNE.mk rfl (OwnN.nil _ _ _ _) (Below.refl _ _)
      · by_cases hhi : m < s.size
        · rw [unpackR_long hn' hk' (by rw [HM.out]; exact hhi)]
          go_enter Tryz.func110, Tryz.ntmps110
          go_wp2_with (first
            | (go_at_call 125; refine (HC _).out.mono ?_; rintro e w' ⟨rfl, rfl⟩)
            | (go_at_call 126; refine (HK _).out.mono ?_; rintro e w' ⟨rfl, rfl⟩)
            | (go_at_call 127; refine (HN _).out.mono ?_; rintro e w' ⟨rfl, rfl⟩))
          go_ret2
          exact RetNE.mk rfl (OwnN.nil _ _ _ _) (Below.refl _ _)
        · have hsz : s.size = (n * k + 7) / 8 := by rw [HM.out]; omega
          have hrz := fun b w => restzero_at s ((n : Int) * (k : Int)) (n * k) b w (by push_cast; rfl)
          by_cases hr : num s < 2 ^ (n * k)
          · have h1 := fun w => hrz true w (decide_eq_true hr) (by omega) hsz
            have HZ := fun w => Lib.hid (h1 w); clear h1 hrz
            rw [unpackR_ok hn' hk' hsz hr]
            have HSZ := Lib.hid hsz; clear hsz
            have hmk := run_makeN (P := Tryz.prog) Tryz.underlying94 Tryz.infoU64 n (by omega) (by unfold maxLen; omega)
            have hrow := RowN.made .u64 47 w w.heap.size n (Nat.le_refl _) (by unfold maxLen; omega)
            have hb0 : Below w.heap.size w (w.alloc (.cells (madeCells #[.int .u64 0] n) 47)) := (Below.refl _ _).alloc (Nat.le_refl _) _
            generalize hW : (w.alloc (.cells (madeCells #[.int .u64 0] n) 47)) = W1 at hrow hb0
            have hmk1 := hmk w
            rw [hW] at hmk1
            clear hmk hW
            go_enter Tryz.func110, Tryz.ntmps110
            go_wp2_with (first
              | (go_at_call 125; refine (HC _).out.mono ?_; rintro e w' ⟨rfl, rfl⟩)
              | (go_at_call 126; refine (HK _).out.mono ?_; rintro e w' ⟨rfl, rfl⟩)
              | (go_at_call 127; refine (HN _).out.mono ?_; rintro e w' ⟨rfl, rfl⟩)
              | (go_at_call 128; refine (HZ _).out.mono ?_; rintro e w' ⟨rfl, rfl⟩))
            clear hmk1
            go_loopw [42] (fun i wr => ∃ (j : Nat) (ls : List Nat), i = .int .i64 j ∧ j ≤ n ∧ RowN .u64 47 wr w.heap.size w.heap.size n ls ∧ ls.length = n ∧ ls = digs k j (num s) ++ List.replicate (n - j) 0 ∧ Below w.heap.size w wr)
              (fun i _ => n - (intOf i).toNat)
            case atStart => exact ⟨0, _, rfl, Nat.zero_le _, hrow, by simp, by simp [digs], hb0⟩
            case round =>
              obtain ⟨j, ls, rfl, hj, hrw, hlen, hls, hbel⟩ := hrel
              have HL := Lib.hid hlen; have HLS := Lib.hid hls; clear hlen hls
              by_cases hlt : j < n
              · have hjk : j * k ≤ 4096 * 64 := Nat.mul_le_mul (by omega) hk'
                have hjk1 : (j : Int) * (k : Int) ≤ 262144 := by rw [← Int.natCast_mul]; omega
                have hjk2 : 0 ≤ (j : Int) * (k : Int) := by rw [← Int.natCast_mul]; omega
                have htop : j * k + k ≤ 8 * s.size := by
                  have h1 : (j + 1) * k ≤ n * k := Nat.mul_le_mul_right _ hlt
                  rw [Nat.add_mul, Nat.one_mul] at h1
                  rw [HSZ.out]; omega
                have hset := digs_set (k := k) (N := num s) hlt
                have hgb := fun w => getbits_at s ((j : Int) * (k : Int)) (k * j) k (num s / 2 ^ (k * j) % 2 ^ k) w (by rw [Nat.mul_comm]; push_cast; rfl) rfl (by omega) hk' (by rw [Nat.mul_comm k]; exact htop)
                generalize num s / 2 ^ (k * j) % 2 ^ k = x at hset hgb
                have HSET := Lib.hid hset; have HGB := fun w => Lib.hid (hgb w); clear hset hgb
                have hc := hrw.cell j (by rw [HL.out]; exact hlt)
                have hf := hrw.frozen j
                have hst := hrw.store j x
                go_wp2_with (go_at_call 129; refine (HGB _).out.mono ?_; rintro e w' ⟨rfl, rfl⟩)
                clear hc hf
                go_roundw
                case rel => exact ⟨j + 1, _, by go_num, hlt, hst, by rw [List.length_set]; exact HL.out, by rw [HLS.out]; exact HSET.out, hbel.setCell (Nat.le_refl _) _⟩
                case measure => simp [intOf] <;> omega
              · have hjn : j = n := by omega
                have hfin : ls = digs k n (num s) := by rw [HLS.out, hjn, Nat.sub_self, List.replicate_zero, List.append_nil]
                have HF := Lib.hid hfin; clear hjn hfin
                go_wp2
                go_ret2
                exact RetNE.mk rfl (hrw.own_at HL.out HF.out) hbel
          · have h1 := fun w => hrz false w (decide_eq_false hr) (by omega) hsz
            have HZ := fun w => Lib.hid (h1 w); clear h1 hrz
            rw [unpackR_rest hn' hk' hsz hr]
            clear hsz
            go_enter Tryz.func110, Tryz.ntmps110
            go_wp2_with (first
              | (go_at_call 125; refine (HC _).out.mono ?_; rintro e w' ⟨rfl, rfl⟩)
              | (go_at_call 126; refine (HK _).out.mono ?_; rintro e w' ⟨rfl, rfl⟩)
              | (go_at_call 127; refine (HN _).out.mono ?_; rintro e w' ⟨rfl, rfl⟩)
              | (go_at_call 128; refine (HZ _).out.mono ?_; rintro e w' ⟨rfl, rfl⟩))
            go_ret2
            exact RetNE.mk rfl (OwnN.nil _ _ _ _) (Below.refl _ _)
    · have h1 := fun w => iswidth_any k w
      rw [decide_eq_false hk] at h1
      have HK := fun w => Lib.hid (h1 w); clear h1
      rw [unpackR_range (by omega)]
      go_enter Tryz.func110, Tryz.ntmps110
      go_wp2_with (first
        | (go_at_call 125; refine (HC _).out.mono ?_; rintro e w' ⟨rfl, rfl⟩)
        | (go_at_call 126; refine (HK _).out.mono ?_; rintro e w' ⟨rfl, rfl⟩))
      go_ret2
      exact RetNE.mk rfl (OwnN.nil _ _ _ _) (Below.refl _ _)
  · have h1 := fun w => iscount_any n w
    rw [decide_eq_false hn] at h1
    have HC := fun w => Lib.hid (h1 w); clear h1
    rw [unpackR_range (by omega)]
    go_enter Tryz.func110, Tryz.ntmps110
    go_wp2_with (first
      | (go_at_call 125; refine (HC _).out.mono ?_; rintro e w' ⟨rfl, rfl⟩))
    go_ret2
    exact RetNE.mk rfl (OwnN.nil _ _ _ _) (Below.refl _ _)
end Go.Proofs.YtbolbbngncnecaaGreat
