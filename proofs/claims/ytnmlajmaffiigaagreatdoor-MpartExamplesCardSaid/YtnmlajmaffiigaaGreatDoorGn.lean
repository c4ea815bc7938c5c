/- Numbers as lists of digits in base 2^w: the plain facts behind packed numbers. -/
import Derived.Test.YtnmlajmaffiigaaGreatDoorGv
import Derived.Test.YtnmlajmaffiigaaGreatDoorGa
import Derived.RegionTactic
import Derived.ChangeAlike
import Derived.Test.YtnmlajmaffiigaaGreatDoorGm
import Derived.StillTailTactics
import Derived.Deep.RegionWith
namespace Go.BP
open Go.RowKit Go.VB

/-- The number whose digits in base 2^w are the list, the lowest first. -/
def big (w : Nat) : List Nat → Nat
  | [] => 0
  | x :: l => x + 2 ^ w * big w l
/-- The first n digits of N in base 2^w. -/
def digs (w n N : Nat) : List Nat := (List.range n).map fun i => N / 2 ^ (w * i) % 2 ^ w

theorem digs_len (w n N : Nat) : (digs w n N).length = n := by simp [digs]
theorem digs_get {w n N i : Nat} (h : i < n) : (digs w n N)[i]? = some (N / 2 ^ (w * i) % 2 ^ w) := by simp [digs, h]
theorem digs_lt (w n N : Nat) : ∀ x ∈ digs w n N, x < 2 ^ w := by
  intro x hx
  simp only [digs, List.mem_map] at hx
  obtain ⟨i, _, rfl⟩ := hx
  exact Nat.mod_lt _ (Nat.two_pow_pos w)
theorem digs_succ (w n N : Nat) : digs w (n + 1) N = digs w n N ++ [N / 2 ^ (w * n) % 2 ^ w] := by simp [digs, List.range_succ]

theorem big_one (w x : Nat) : big w [x] = x := by simp [big]
theorem big_append (w : Nat) (a b : List Nat) : big w (a ++ b) = big w a + 2 ^ (w * a.length) * big w b := by
  induction a with
  | nil => simp [big]
  | cons x a ih =>
    simp only [List.cons_append, big, ih, List.length_cons, Nat.mul_add, Nat.mul_one, Nat.pow_add]
    rw [← Nat.mul_assoc (2 ^ w), Nat.mul_comm (2 ^ w) (2 ^ (w * a.length))]
    omega
theorem big_snoc (w : Nat) (a : List Nat) (x : Nat) : big w (a ++ [x]) = big w a + x * 2 ^ (w * a.length) := by
  rw [big_append, big_one, Nat.mul_comm]
theorem big_lt {w : Nat} : ∀ {l : List Nat}, (∀ x ∈ l, x < 2 ^ w) → big w l < 2 ^ (w * l.length)
  | [], _ => by simp [big]
  | x :: l, h => by
    have h1 := h x (List.mem_cons_self ..)
    have h2 := big_lt (w := w) (l := l) (fun y hy => h y (List.mem_cons_of_mem _ hy))
    have e : 2 ^ (w * (l.length + 1)) = 2 ^ w * 2 ^ (w * l.length) := by rw [Nat.mul_add, Nat.mul_one, Nat.pow_add, Nat.mul_comm]
    simp only [big, List.length_cons, e]
    have h3 : 2 ^ w * (big w l + 1) ≤ 2 ^ w * 2 ^ (w * l.length) := Nat.mul_le_mul_left _ h2
    rw [Nat.mul_add, Nat.mul_one] at h3
    omega
theorem big_zeros (w n : Nat) : big w (List.replicate n 0) = 0 := by
  induction n with
  | zero => rfl
  | succ n ih => simp [List.replicate_succ, big, ih]
theorem big_digs (w n N : Nat) : big w (digs w n N) = N % 2 ^ (w * n) := by
  induction n with
  | zero => simp [digs, big, Nat.mod_one]
  | succ n ih =>
    rw [digs_succ, big_snoc, ih, digs_len, Nat.mul_add, Nat.mul_one, Nat.pow_add, Nat.mod_mul, Nat.mul_comm (2 ^ (w * n))]
theorem big_div {w : Nat} : ∀ {l : List Nat} (_ : ∀ x ∈ l, x < 2 ^ w) (i : Nat), big w l / 2 ^ (w * i) % 2 ^ w = l.getD i 0
  | [], _, i => by simp [big]
  | x :: l, h, 0 => by
    have h1 := h x (List.mem_cons_self ..)
    simp [big, Nat.add_mul_mod_self_left, Nat.mod_eq_of_lt h1]
  | x :: l, h, i + 1 => by
    have h1 := h x (List.mem_cons_self ..)
    have ih := big_div (w := w) (l := l) (fun y hy => h y (List.mem_cons_of_mem _ hy)) i
    have e : 2 ^ (w * (i + 1)) = 2 ^ w * 2 ^ (w * i) := by rw [Nat.mul_add, Nat.mul_one, Nat.pow_add, Nat.mul_comm]
    rw [big, e, ← Nat.div_div_eq_div_mul, Nat.add_mul_div_left _ _ (Nat.two_pow_pos w), Nat.div_eq_of_lt h1, Nat.zero_add, ih]
    simp
/-- A list of digits is told by its number and its length. -/
theorem digs_big {w : Nat} {l : List Nat} (h : ∀ x ∈ l, x < 2 ^ w) : digs w l.length (big w l) = l := by
  apply List.ext_getElem?
  intro i
  by_cases hi : i < l.length
  · rw [digs_get hi, big_div h, List.getD_eq_getElem?_getD, List.getElem?_eq_getElem hi]; rfl
  · rw [List.getElem?_eq_none (by rw [digs_len]; omega), List.getElem?_eq_none (by omega)]
theorem digs_of {w n N : Nat} {l : List Nat} (h : ∀ x ∈ l, x < 2 ^ w) (hn : l.length = n) (hN : big w l = N) : l = digs w n N := by
  subst hn; subst hN; exact (digs_big h).symm
theorem big_set {w : Nat} : ∀ {l : List Nat} {i : Nat} (_ : i < l.length) (y : Nat), big w (l.set i (l.getD i 0 + y)) = big w l + y * 2 ^ (w * i)
  | x :: l, 0, _, y => by simp [big]; omega
  | x :: l, i + 1, h, y => by
    have ih := big_set (w := w) (l := l) (i := i) (by simpa using h) y
    have e : 2 ^ (w * (i + 1)) = 2 ^ w * 2 ^ (w * i) := by rw [Nat.mul_add, Nat.mul_one, Nat.pow_add, Nat.mul_comm]
    simp only [List.set_cons_succ, big, List.getD_cons_succ, ih]
    rw [e, Nat.mul_add, Nat.mul_left_comm y, Nat.add_assoc]
theorem set_lt {w : Nat} {l : List Nat} {i y : Nat} (h : ∀ x ∈ l, x < 2 ^ w) (hy : y < 2 ^ w) : ∀ x ∈ l.set i y, x < 2 ^ w := by
  intro x hx
  rcases List.mem_or_eq_of_mem_set hx with h1 | h1
  · exact h x h1
  · subst h1; exact hy
theorem zeros_lt (w n : Nat) : ∀ x ∈ List.replicate n 0, x < 2 ^ w := by
  intro x hx
  rw [List.eq_of_mem_replicate hx]; exact Nat.two_pow_pos w
/-- What lies at digit i of a number below 2^(w i + r). -/
theorem digit_lt {w : Nat} {l : List Nat} (h : ∀ x ∈ l, x < 2 ^ w) {i r : Nat} (hb : big w l < 2 ^ (w * i + r)) : l.getD i 0 < 2 ^ r := by
  rw [← big_div h i]
  refine Nat.lt_of_le_of_lt (Nat.mod_le _ _) ?_
  rw [Nat.div_lt_iff_lt_mul (Nat.two_pow_pos _), ← Nat.pow_add, Nat.add_comm]
  exact hb

/-! one step of putting bits, of reading bits -/
/-- v 2^low mod 2^8, put at bit 8 i + low: v's lowest 8 - low bits. -/
theorem put_split (v low : Nat) (h : low ≤ 8) : v * 2 ^ low % 256 = v % 2 ^ (8 - low) * 2 ^ low := by
  have e : 256 = 2 ^ (8 - low) * 2 ^ low := by rw [← Nat.pow_add, show 8 - low + low = 8 from by omega]
  rw [e, Nat.mul_mod_mul_right]
theorem put_step (v B at' : Nat) (q low : Nat) (hat : at' = 8 * q + low) :
    B + v % 2 ^ (8 - low) * 2 ^ low * 2 ^ (8 * q) + v / 2 ^ (8 - low) * 2 ^ (at' + (8 - low)) = B + v * 2 ^ at' := by
  have e1 : v % 2 ^ (8 - low) * 2 ^ low * 2 ^ (8 * q) = v % 2 ^ (8 - low) * 2 ^ at' := by rw [Nat.mul_assoc, ← Nat.pow_add, hat, Nat.add_comm low]
  have e2 : v / 2 ^ (8 - low) * 2 ^ (at' + (8 - low)) = 2 ^ (8 - low) * (v / 2 ^ (8 - low)) * 2 ^ at' := by
    rw [Nat.add_comm at', Nat.pow_add, ← Nat.mul_assoc, Nat.mul_comm (v / 2 ^ (8 - low))]
  rw [e1, e2, Nat.add_assoc, ← Nat.add_mul, Nat.mod_add_div]
/-- The number of a text of bytes, the lowest first. -/
def num (s : ByteArray) : Nat := big 8 (s.data.toList.map (·.toNat))
theorem bytes_lt (l : List UInt8) : ∀ x ∈ l.map (·.toNat), x < 2 ^ 8 := by
  intro x hx
  simp only [List.mem_map] at hx
  obtain ⟨b, _, rfl⟩ := hx
  exact UInt8.toNat_lt b
theorem num_byte (s : ByteArray) (q : Nat) : num s / 2 ^ (8 * q) % 2 ^ 8 = bN s q := by
  unfold num
  rw [big_div (bytes_lt _), List.getD_eq_getElem?_getD, List.getElem?_map]
  unfold bN
  rw [List.getD_eq_getElem?_getD]
  cases s.data.toList[q]? <;> rfl
theorem bytes_back {l : List Nat} (h : ∀ x ∈ l, x < 2 ^ 8) : (l.map UInt8.ofNat).map (·.toNat) = l := by
  rw [List.map_map]
  refine (List.map_congr_left fun x hx => ?_).trans (List.map_id l)
  exact Nat.mod_eq_of_lt (h x hx)
theorem num_str {l : List Nat} (h : ∀ x ∈ l, x < 2 ^ 8) : num (str (l.map UInt8.ofNat)) = big 8 l := by
  unfold num
  rw [str_toList, bytes_back h]
theorem num_digs (m N : Nat) : num (str ((digs 8 m N).map UInt8.ofNat)) = N % 2 ^ (8 * m) := by
  rw [num_str (digs_lt 8 m N), big_digs]
/-! the number of binary digits -/
def wid (v : Nat) : Nat := if v = 0 then 0 else wid (v / 2) + 1
termination_by v
decreasing_by omega
theorem wid_zero : wid 0 = 0 := by rw [wid]; simp
theorem wid_pos {v : Nat} (h : 0 < v) : wid v = wid (v / 2) + 1 := by rw [wid, if_neg (by omega)]
theorem wid_le : ∀ (k v : Nat), wid v ≤ k ↔ v < 2 ^ k
  | 0, v => by
    by_cases h : v = 0
    · subst h; simp [wid_zero]
    · rw [wid_pos (by omega)]; simp; omega
  | k + 1, v => by
    by_cases h : v = 0
    · subst h; simp [wid_zero, Nat.two_pow_pos]
    · have := wid_le k (v / 2)
      rw [wid_pos (by omega), Nat.pow_succ]
      omega
theorem wid_64 {v : Nat} (h : v < 18446744073709551616) : wid v ≤ 64 := (wid_le 64 v).2 (by simpa using h)
theorem shr_zero (v w : Nat) : v / 2 ^ w = 0 ↔ v < 2 ^ w := by
  rw [Nat.div_eq_zero_iff]
  have := Nat.two_pow_pos w
  omega

/-! what the functions return -/
def needN (n w : Int) : Int := if n < 0 ∨ 4096 < n ∨ w < 0 ∨ 64 < w then 0 else (n * w + 7) / 8
theorem needN_out {n w : Int} (h : n < 0 ∨ 4096 < n ∨ w < 0 ∨ 64 < w) : needN n w = 0 := by unfold needN; rw [if_pos h]
theorem needN_in {n w : Nat} (hn : n ≤ 4096) (hw : w ≤ 64) : needN n w = ((n * w + 7) / 8 : Nat) := by
  unfold needN; rw [if_neg (by omega)]; push_cast; rfl
theorem need_le {n w : Nat} (hn : n ≤ 4096) (hw : w ≤ 64) : (n * w + 7) / 8 ≤ 32768 := by
  have : n * w ≤ 4096 * 64 := Nat.mul_le_mul hn hw
  omega
/-- The packed form. -/
def packed (l : List Nat) (w : Nat) : List UInt8 := (digs 8 ((l.length * w + 7) / 8) (big w l)).map UInt8.ofNat
theorem packed_len (l : List Nat) (w : Nat) : (packed l w).length = (l.length * w + 7) / 8 := by simp [packed, digs_len]
def packR (l : List Nat) (w : Int) : ByteArray × Nat :=
  if w < 0 ∨ 64 < w then (⟨#[]⟩, 4) else if 4096 < l.length then (⟨#[]⟩, 7) else if l.all (fun x => decide (x < 2 ^ w.toNat)) then (str (packed l w.toNat), 0) else (⟨#[]⟩, 8)
theorem packR_range {l : List Nat} {w : Int} (h : w < 0 ∨ 64 < w) : packR l w = (⟨#[]⟩, 4) := by unfold packR; rw [if_pos h]
theorem packR_full {l : List Nat} {w : Nat} (h : w ≤ 64) (hl : 4096 < l.length) : packR l w = (⟨#[]⟩, 7) := by unfold packR; rw [if_neg (by omega), if_pos hl]
theorem packR_ok {l : List Nat} {w : Nat} (h : w ≤ 64) (hl : l.length ≤ 4096) (hx : ∀ x ∈ l, x < 2 ^ w) : packR l w = (str (packed l w), 0) := by
  unfold packR
  rw [if_neg (by omega), if_neg (by omega), Int.toNat_natCast, if_pos (by simpa using hx)]
theorem packR_over {l : List Nat} {w : Nat} (h : w ≤ 64) (hl : l.length ≤ 4096) {x : Nat} (hm : x ∈ l) (hx : ¬ x < 2 ^ w) : packR l w = (⟨#[]⟩, 8) := by
  unfold packR
  rw [if_neg (by omega), if_neg (by omega), Int.toNat_natCast, if_neg (by simp; exact ⟨x, hm, by omega⟩)]
end Go.BP

namespace Go.NU
open Go.RowKit Go.VB Go.BP

/-- A list of truth values as digits. -/
def d01 (l : List Bool) : List Nat := l.map Bool.toNat
theorem d01_len (l : List Bool) : (d01 l).length = l.length := List.length_map _
theorem d01_lt (l : List Bool) : ∀ x ∈ d01 l, x < 2 ^ 1 := by
  intro x hx
  simp only [d01, List.mem_map] at hx
  obtain ⟨b, _, rfl⟩ := hx
  cases b <;> decide
theorem d01_get {l : List Bool} {j : Nat} {b : Bool} (h : l[j]? = some b) : (d01 l).getD j 0 = b.toNat := by
  rw [List.getD_eq_getElem?_getD, d01, List.getElem?_map, h]; rfl
/-- The bitmap of a list. -/
def bmp (l : List Bool) : ByteArray := str (packed (d01 l) 1)
theorem bmp_size (l : List Bool) : (bmp l).size = (l.length + 7) / 8 := by
  rw [bmp, str_size, packed_len, d01_len, Nat.mul_one]
theorem bmp_big (l : List Bool) : big 1 (d01 l) < 2 ^ l.length := by
  have := big_lt (d01_lt l)
  rwa [d01_len, Nat.one_mul] at this
theorem bmp_num (l : List Bool) : num (bmp l) = big 1 (d01 l) := by
  unfold bmp packed
  rw [num_digs, d01_len]
  exact Nat.mod_eq_of_lt (Nat.lt_of_lt_of_le (bmp_big l) (Nat.pow_le_pow_right (by decide) (by omega)))
theorem bit_bmp {l : List Bool} {i : Nat} {b : Bool} (h : l[i]? = some b) : num (bmp l) / 2 ^ i % 2 = b.toNat := by
  have h1 := big_div (d01_lt l) i
  rw [d01_get h, Nat.one_mul] at h1
  rw [bmp_num]; exact h1
/-! the number of ones -/
def ones (N : Nat) : Nat → Nat
  | 0 => 0
  | i + 1 => ones N i + N / 2 ^ i % 2
theorem ones_succ (N i : Nat) : ones N (i + 1) = ones N i + N / 2 ^ i % 2 := rfl
theorem ones_le (N : Nat) : ∀ i, ones N i ≤ i
  | 0 => Nat.le_refl _
  | i + 1 => by
    have := ones_le N i
    have := Nat.mod_lt (N / 2 ^ i) (show 0 < 2 by decide)
    rw [ones_succ]; omega
theorem ones_add (N a : Nat) : ∀ b, ones N (a + b) = ones N a + ones (N / 2 ^ a) b
  | 0 => rfl
  | b + 1 => by
    rw [← Nat.add_assoc, ones_succ, ones_succ, ones_add N a b, Nat.div_div_eq_div_mul, ← Nat.pow_add, Nat.add_assoc]
theorem ones_mod (N a : Nat) : ∀ b, b ≤ a → ones (N % 2 ^ a) b = ones N b
  | 0, _ => rfl
  | b + 1, h => by
    have e : N % 2 ^ a / 2 ^ b % 2 = N / 2 ^ b % 2 := by
      obtain ⟨d, rfl⟩ : ∃ d, a = b + (d + 1) := ⟨a - b - 1, by omega⟩
      rw [Nat.pow_add, Nat.mod_mul_right_div_self]
      refine Nat.mod_mod_of_dvd _ ?_
      have : (2 : Nat) ^ 1 ∣ 2 ^ (d + 1) := Nat.pow_dvd_pow 2 (by omega)
      simpa using this
    rw [ones_succ, ones_succ, ones_mod N a b (by omega), e]
theorem ones_none (i : Nat) : ones 0 i = 0 := by
  induction i with
  | zero => rfl
  | succ i ih => rw [ones_succ, ih]; simp
theorem ones_byte (s : ByteArray) (j : Nat) : ones (num s) (8 * j) + ones (bN s j) 8 = ones (num s) (8 * (j + 1)) := by
  rw [Nat.mul_add, Nat.mul_one, ones_add, ← num_byte, ones_mod _ 8 8 (Nat.le_refl _)]
/-- The ones of a byte, its lowest bit first. -/
theorem ones_half {B : Nat} (h : B < 256) : ones B 8 = B % 2 + ones (B / 2) 8 := by
  have h1 := ones_add B 1 7
  have h2 := ones_succ (B / 2) 7
  have h3 : B / 2 / 2 ^ 7 = 0 := Nat.div_eq_of_lt (by omega)
  have h4 : ones B 1 = B % 2 := by simp [ones]
  rw [h3] at h2
  rw [show 1 + 7 = 8 from rfl, h4, Nat.pow_one] at h1
  simp at h2
  omega
end Go.NU

namespace Go.Proofs.YtnmlajmaffiigaaGreatDoor
open Go.RowKit Go.VB Go.VarM Go.BP

set_option maxHeartbeats 400000 in
theorem bwidth_any (n : Nat) (w : World) (h : n < 18446744073709551616) :
    Calls Tryz.prog 255 #[.int .u64 (n : Int)] w (Ret (.int .i64 (wid n : Nat)) w) := by
  have h64 := wid_64 h
  go_enter Tryz.func255, Tryz.ntmps255
  go_wp2
  go_loop [0, 3] (fun v s => ∃ (x k : Nat), v = .int .u64 x ∧ x < 18446744073709551616 ∧ s = .int .i64 k ∧ k + wid x = wid n)
    (fun v _ => (intOf v).toNat)
  case atStart => exact ⟨n, 0, rfl, h, rfl, by omega⟩
  case round =>
    obtain ⟨x, k, rfl, hx, rfl, hk⟩ := hrel
    have hle : k ≤ 64 := by omega
    have HK := Lib.hid hk; clear hk
    by_cases hz : 0 < x
    · have hd : ((x : Int) != 0) = true := by simp; omega
      go_wp2
      go_round
      case rel =>
        refine ⟨x / 2, k + 1, by go_num, by omega, by go_num, ?_⟩
        have := HK.out
        rw [wid_pos hz] at this
        omega
      case measure => simp [intOf] <;> omega
    · have hz0 : x = 0 := by omega
      subst hz0
      go_wp2
      go_ret
      refine Ret.mk ?_
      have := HK.out
      rw [wid_zero] at this
      rw [← this]; rfl
set_option maxHeartbeats 400000 in
theorem iscount_any (n : Int) (w : World) : Calls Tryz.prog 257 #[.int .i64 n] w (Ret (.bool (decide (0 ≤ n ∧ n ≤ 4096))) w) := by
  by_cases h0 : 0 ≤ n
  · go_enter Tryz.func257, Tryz.ntmps257
    go_wp2
    go_ret
    exact Ret.mk (by simp [h0])
  · go_enter Tryz.func257, Tryz.ntmps257
    go_wp2
    go_ret
    exact Ret.mk (by simp; omega)
set_option maxHeartbeats 400000 in
theorem iswidth_any (n : Int) (w : World) : Calls Tryz.prog 258 #[.int .i64 n] w (Ret (.bool (decide (0 ≤ n ∧ n ≤ 64))) w) := by
  by_cases h0 : 0 ≤ n
  · go_enter Tryz.func258, Tryz.ntmps258
    go_wp2
    go_ret
    exact Ret.mk (by simp [h0])
  · go_enter Tryz.func258, Tryz.ntmps258
    go_wp2
    go_ret
    exact Ret.mk (by simp; omega)
set_option maxHeartbeats 400000 in
theorem bneed_any (n k : Int) (w : World) :
    Calls Tryz.prog 259 #[.int .i64 n, .int .i64 k] w (Ret (.int .i64 (needN n k)) w) := by
  by_cases hn : 0 ≤ n ∧ n ≤ 4096
  · have hc := fun w => iscount_any n w
    rw [decide_eq_true hn] at hc
    have HC := fun w => Lib.hid (hc w); clear hc
    by_cases hk : 0 ≤ k ∧ k ≤ 64
    · have hc := fun w => iswidth_any k w
      rw [decide_eq_true hk] at hc
      have HK := fun w => Lib.hid (hc w); clear hc
      obtain ⟨n, rfl⟩ := Int.eq_ofNat_of_zero_le hn.1
      obtain ⟨k, rfl⟩ := Int.eq_ofNat_of_zero_le hk.1
      obtain ⟨_, hn⟩ := hn
      obtain ⟨_, hk⟩ := hk
      rw [needN_in (by omega) (by omega)]
      have hm : n * k ≤ 4096 * 64 := Nat.mul_le_mul (by omega) (by omega)
      have hm1 : (n : Int) * (k : Int) ≤ 262144 := by rw [← Int.natCast_mul]; omega
      have hm2 : 0 ≤ (n : Int) * (k : Int) := by rw [← Int.natCast_mul]; omega
      go_enter Tryz.func259, Tryz.ntmps259
      go_wp2_with (first
        | (go_at_call 257; refine (HC _).out.mono ?_; rintro e w' ⟨rfl, rfl⟩)
        | (go_at_call 258; refine (HK _).out.mono ?_; rintro e w' ⟨rfl, rfl⟩))
      go_ret
      refine Ret.mk (vint ?_)
      push_cast; omega
    · have hc := fun w => iswidth_any k w
      rw [decide_eq_false hk] at hc
      have HK := fun w => Lib.hid (hc w); clear hc
      rw [needN_out (by omega)]
      go_enter Tryz.func259, Tryz.ntmps259
      go_wp2_with (first
        | (go_at_call 257; refine (HC _).out.mono ?_; rintro e w' ⟨rfl, rfl⟩)
        | (go_at_call 258; refine (HK _).out.mono ?_; rintro e w' ⟨rfl, rfl⟩))
      go_ret
      exact Ret.mk rfl
  · have hc := fun w => iscount_any n w
    rw [decide_eq_false hn] at hc
    have HC := fun w => Lib.hid (hc w); clear hc
    rw [needN_out (by omega)]
    go_enter Tryz.func259, Tryz.ntmps259
    go_wp2_with (first
      | (go_at_call 257; refine (HC _).out.mono ?_; rintro e w' ⟨rfl, rfl⟩))
    go_ret
    exact Ret.mk rfl
end Go.Proofs.YtnmlajmaffiigaaGreatDoor

namespace Go.Proofs.YtnmlajmaffiigaaGreatDoor
open Go.RowKit Go.VB Go.VarM Go.BP
theorem Tryz.infoU64 : (Tryz.prog.info? 96).map (fun i => (i.zero, i.size, i.bytes)) = some (some (.int .u64 0), 1, 8) := by kernel_rfl
theorem Tryz.infoB8 : (Tryz.prog.info? 5).map (fun i => (i.zero, i.size, i.bytes)) = some (some (.int .u8 0), 1, 1) := by kernel_rfl

theorem or_put {B y low : Nat} (hB : B < 2 ^ low) (hl : low < 8) : 
    bits .or .u8 (B : Int) (IntKind.u64.wrap ((y : Int) * 2 ^ low) % 256) = ((B + y % 2 ^ (8 - low) * 2 ^ low : Nat) : Int) ∧ B + y % 2 ^ (8 - low) * 2 ^ low < 2 ^ 8 := by
  have hp : (2 : Nat) ^ 8 = 2 ^ (8 - low) * 2 ^ low := by rw [← Nat.pow_add, show 8 - low + low = 8 from by omega]
  have hx : y % 2 ^ (8 - low) < 2 ^ (8 - low) := Nat.mod_lt _ (Nat.two_pow_pos _)
  have hlt : y % 2 ^ (8 - low) * 2 ^ low + B < 2 ^ 8 := by
    rw [hp]
    have : (y % 2 ^ (8 - low) + 1) * 2 ^ low ≤ 2 ^ (8 - low) * 2 ^ low := Nat.mul_le_mul_right _ hx
    rw [Nat.add_mul] at this
    omega
  have e : IntKind.u64.wrap ((y : Int) * 2 ^ low) % 256 = ((y % 2 ^ (8 - low) * 2 ^ low : Nat) : Int) := by
    have e0 : ((y : Int) * 2 ^ low) = ((y * 2 ^ low : Nat) : Int) := by push_cast; rfl
    rw [e0, IntKind.wrap_u64, ← put_split y low (by omega)]
    generalize y * 2 ^ low = z
    omega
  rw [show (2 : Nat) ^ 8 = 256 from by decide] at hlt hp ⊢
  refine ⟨?_, by omega⟩
  rw [e, u8_or_nat B _ (by omega) (by omega), Nat.or_comm, nat_join low _ B (Nat.mul_mod_left _ _) hB, Nat.add_comm]
theorem u8_set {w : World} {a : Addr} {x y : Int} (h : x = y) : w.setCell a (.int .u8 x) = w.setCell a (.int .u8 y) := by rw [h]

/-- The bytes have the bits of v from bit at' on. -/
def PutPost (base g c : Nat) (bs : List Nat) (N : Nat) (w : World) : Ending → World → Prop := fun e w' => e = .returned (.tuple #[]) ∧
  ∃ bs', RowN .u8 5 w' base g c bs' ∧ bs'.length = bs.length ∧ (∀ x ∈ bs', x < 2 ^ 8) ∧ big 8 bs' = N ∧ Below base w w'
set_option maxRecDepth 100000 in
set_option maxHeartbeats 1000000 in
theorem putbits_any (v at' base g c : Nat) (bs : List Nat) (w : World) (hv : v < 2 ^ 64) (hat : at' ≤ 900000) (hown : RowN .u8 5 w base g c bs) (hbs : ∀ x ∈ bs, x < 2 ^ 8) (hl : bs.length ≤ 100000)
    (hlo : big 8 bs < 2 ^ at') (hhi : big 8 bs + v * 2 ^ at' < 2 ^ (8 * bs.length)) :
    Calls Tryz.prog 270 #[.slice (some ⟨g, 0, none⟩) bs.length c, .int .i64 at', .int .u64 v] w (PutPost base g c bs (big 8 bs + v * 2 ^ at') w) := by
  have hbase := hown.lt.1
  generalize hN : big 8 bs + v * 2 ^ at' = N at hhi ⊢
  have HN := Lib.hid hN; clear hN
  go_enter Tryz.func270, Tryz.ntmps270
  go_wp2
  go_loopw [1, 2] (fun a x wr => ∃ (p y : Nat) (cs : List Nat), a = .int .i64 p ∧ x = .int .u64 y ∧ y < 2 ^ 64 ∧ p ≤ 1000000 ∧ RowN .u8 5 wr base g c cs ∧ cs.length = bs.length ∧ (∀ x ∈ cs, x < 2 ^ 8) ∧
    big 8 cs < 2 ^ p ∧ big 8 cs + y * 2 ^ p = N ∧ Below base w wr)
    (fun _ x _ => (intOf x).toNat)
  case atStart => exact ⟨at', v, bs, rfl, rfl, hv, by omega, hown, rfl, hbs, hlo, HN.out, Below.refl _ _⟩
  case round =>
    obtain ⟨p, y, cs, rfl, rfl, hy, hp, hrow, hlen, hcs, hlo', hsum, hbel⟩ := hrel
    have HS := Lib.hid hsum; have HL := Lib.hid hlen; clear hsum hlen
    by_cases hz : 0 < y
    · have hd : ((y : Int) != 0) = true := by simp; omega
      have hin : p / 8 < cs.length := by
        have h1 : 2 ^ p ≤ y * 2 ^ p := Nat.le_mul_of_pos_left _ hz
        have h2 : 2 ^ p < 2 ^ (8 * bs.length) := by have := HS.out; omega
        have h3 := (Nat.pow_lt_pow_iff_right (a := 2) (by decide)).1 h2
        rw [HL.out]; omega
      have hin2 : p / 8 < bs.length := by rw [← HL.out]; exact hin
      have hc := hrow.cell (p / 8) hin
      have hf := hrow.frozen (p / 8)
      have hpp : p = 8 * (p / 8) + p % 8 := by omega
      have hBl : cs.getD (p / 8) 0 < 2 ^ (p % 8) := digit_lt hcs (by rw [← hpp]; exact hlo')
      obtain ⟨hor, hfit⟩ := or_put (y := y) hBl (Nat.mod_lt p (by decide))
      have HO := Lib.hid (u8_set (w := wr) (a := ⟨g, p / 8, none⟩) hor); clear hor
      have hstep := put_step y (big 8 cs) p (p / 8) (p % 8) hpp
      have hset := big_set (w := 8) hin (y % 2 ^ (8 - p % 8) * 2 ^ (p % 8))
      have HT := Lib.hid hstep; have HE := Lib.hid hset; have HP := Lib.hid hpp; clear hstep hset hpp
      have hrow' := hrow.store (p / 8) (cs.getD (p / 8) 0 + y % 2 ^ (8 - p % 8) * 2 ^ (p % 8))
      have hlo2 : big 8 cs + y % 2 ^ (8 - p % 8) * 2 ^ (p % 8) * 2 ^ (8 * (p / 8)) < 2 ^ (p + (8 - p % 8)) := by
        have h1 : y % 2 ^ (8 - p % 8) * 2 ^ (p % 8) * 2 ^ (8 * (p / 8)) = y % 2 ^ (8 - p % 8) * 2 ^ p := by
          rw [Nat.mul_assoc, ← Nat.pow_add]; congr 2; omega
        have h2 : (y % 2 ^ (8 - p % 8) + 1) * 2 ^ p ≤ 2 ^ (8 - p % 8) * 2 ^ p := Nat.mul_le_mul_right _ (Nat.mod_lt _ (Nat.two_pow_pos _))
        rw [h1, Nat.pow_add, Nat.mul_comm (2 ^ p)]
        rw [Nat.add_mul] at h2
        omega
      have hdiv : y / 2 ^ (8 - p % 8) < y := Nat.div_lt_self hz (Nat.one_lt_two_pow (by omega))
      generalize hB : cs.getD (p / 8) 0 = B at *
      have HB := Lib.hid hB; clear hB
      go_wp2_with fail
      go_region
      go_wp2_with fail
      clear hc hf
      go_roundw
      case rel =>
        refine ⟨p + (8 - p % 8), y / 2 ^ (8 - p % 8), cs.set (p / 8) (B + y % 2 ^ (8 - p % 8) * 2 ^ (p % 8)), vint (by omega), vint (by push_cast; rfl), by omega, by omega, ?_, by rw [List.length_set]; exact HL.out, set_lt hcs hfit, ?_, ?_, ?_⟩
        · rw [HO.out]; exact hrow'.drew
        · rw [HE.out]; exact hlo2
        · rw [HE.out, HT.out]; exact HS.out
        · exact (hbel.setCell hbase _).drew
      case measure =>
        have e : ((y : Int) / 2 ^ (8 - p % 8)) = ((y / 2 ^ (8 - p % 8) : Nat) : Int) := by push_cast; rfl
        rw [e]
        simp only [intOf]
        omega
    · have hz0 : y = 0 := by omega
      subst hz0
      go_wp2_with fail
      go_end0
      refine ⟨rfl, cs, hrow, HL.out, hcs, ?_, hbel⟩
      have := HS.out
      omega
end Go.Proofs.YtnmlajmaffiigaaGreatDoor

namespace Go.Proofs.YtnmlajmaffiigaaGreatDoor
open Go.RowKit Go.VB Go.VarM Go.BP

theorem nvs_u8 {bs : List Nat} (h : ∀ x ∈ bs, x < 2 ^ 8) : (bs.map UInt8.ofNat).map bv = nvs .u8 bs := by
  rw [List.map_map]
  refine List.map_congr_left fun x hx => ?_
  have := h x hx
  simp only [Function.comp, bv]
  rw [UInt8.toNat_ofNat', Nat.mod_eq_of_lt this]
theorem RowN.ownB {e : TypeId} {w : World} {base g c : Nat} {bs : List Nat} (h : RowN .u8 e w base g c bs) (hb : ∀ x ∈ bs, x < 2 ^ 8) : OwnB e w base (.slice (some ⟨g, 0, none⟩) bs.length c) (bs.map UInt8.ofNat) := by
  unfold OwnB
  rw [nvs_u8 hb, List.length_map]; exact h
theorem get_mem {l : List Nat} {j : Nat} (h : j < l.length) : l.getD j 0 ∈ l := by
  rw [List.getD_eq_getElem?_getD, List.getElem?_eq_getElem h]; exact List.getElem_mem h
theorem take_snoc {l : List Nat} {j : Nat} (h : j < l.length) : l.take (j + 1) = l.take j ++ [l.getD j 0] := by
  rw [List.take_succ_eq_append_getElem h, List.getD_eq_getElem?_getD, List.getElem?_eq_getElem h]; rfl
theorem big_take {w : Nat} {l : List Nat} {j : Nat} (h : j < l.length) : big w (l.take (j + 1)) = big w (l.take j) + l.getD j 0 * 2 ^ (w * j) := by
  rw [take_snoc h, big_snoc, List.length_take, Nat.min_eq_left (by omega)]
theorem take_lt {w : Nat} {l : List Nat} {j : Nat} (h : j < l.length) (ht : ∀ x ∈ l.take j, x < 2 ^ w) (hx : l.getD j 0 < 2 ^ w) : ∀ x ∈ l.take (j + 1), x < 2 ^ w := by
  intro x hm
  rw [take_snoc h, List.mem_append] at hm
  rcases hm with hm | hm
  · exact ht x hm
  · rw [List.mem_singleton] at hm; subst hm; exact hx
theorem big_take_lt {w : Nat} {l : List Nat} {j : Nat} (h : j ≤ l.length) (ht : ∀ x ∈ l.take j, x < 2 ^ w) : big w (l.take j) < 2 ^ (w * j) := by
  have := big_lt ht
  rwa [List.length_take, Nat.min_eq_left h] at this
theorem pow_need {n w j : Nat} (h : j ≤ n) : (2 : Nat) ^ (w * j) ≤ 2 ^ (8 * ((n * w + 7) / 8)) := by
  refine Nat.pow_le_pow_right (by decide) ?_
  have : w * j ≤ n * w := by rw [Nat.mul_comm]; exact Nat.mul_le_mul_right _ h
  omega
theorem shr_ne {V k : Nat} : ((V : Int) / 2 ^ k != 0) = decide (¬ V < 2 ^ k) := by
  have e : ((V : Int) / 2 ^ k) = ((V / 2 ^ k : Nat) : Int) := by push_cast; rfl
  rw [e, Bool.eq_iff_iff, bne_iff_ne, decide_eq_true_iff]
  have := shr_zero V k
  omega
theorem putbits_at (a x : Int) (n v at' base g c : Nat) (bs : List Nat) (w : World) (ha : a = at') (hx : x = v) (hn : bs.length = n) (hv : v < 2 ^ 64) (hat : at' ≤ 900000) (hown : RowN .u8 5 w base g c bs) (hbs : ∀ x ∈ bs, x < 2 ^ 8) (hl : bs.length ≤ 100000)
    (hlo : big 8 bs < 2 ^ at') (hhi : big 8 bs + v * 2 ^ at' < 2 ^ (8 * bs.length)) :
    Calls Tryz.prog 270 #[.slice (some ⟨g, 0, none⟩) n c, .int .i64 a, .int .u64 x] w (PutPost base g c bs (big 8 bs + v * 2 ^ at') w) := by
  subst ha; subst hx; subst hn
  exact putbits_any v at' base g c bs w hv hat hown hbs hl hlo hhi
set_option maxRecDepth 100000 in
set_option maxHeartbeats 2000000 in
theorem bpack_any (vl : Value) (l : List Nat) (k : Int) (B : Nat) (w : World) (hr : RdN .u64 w B vl l) (hB : B ≤ w.heap.size) (hl : ∀ x ∈ l, x < 2 ^ 64) :
    Calls Tryz.prog 253 #[vl, .int .i64 k] w (RetSE (packR l k).1 (packR l k).2 w) := by
  obtain ⟨A, c, rfl, hc1, hc2, hr'⟩ := hr
  have hr : RdN .u64 w B (.slice A l.length c) l := ⟨A, c, rfl, hc1, hc2, hr'⟩
  clear hr'
  unfold maxLen at hc2
  have HR := Lib.hid hr; clear hr
  by_cases hk : 0 ≤ k ∧ k ≤ 64
  · have h1 := fun w => iswidth_any k w
    rw [decide_eq_true hk] at h1
    have HK := fun w => Lib.hid (h1 w); clear h1
    obtain ⟨k, rfl⟩ := Int.eq_ofNat_of_zero_le hk.1
    have hk64 : k ≤ 64 := by omega
    clear hk
    by_cases hn : l.length ≤ 4096
    · have h1 := fun w => iscount_any (l.length : Nat) w
      rw [decide_eq_true (by omega)] at h1
      have HC := fun w => Lib.hid (h1 w); clear h1
      have h1 := fun w => bneed_any (l.length : Nat) (k : Nat) w
      rw [needN_in hn hk64] at h1
      have HN := fun w => Lib.hid (h1 w); clear h1
      have hm := need_le hn hk64
      generalize hM : (l.length * k + 7) / 8 = m at HN hm
      have HM := Lib.hid hM; clear hM
      have hmk := run_makeN (P := Tryz.prog) Tryz.underlying41 Tryz.infoB8 m (by omega) (by unfold maxLen; omega)
      have hrow := RowN.made .u8 5 w w.heap.size m (Nat.le_refl _) (by unfold maxLen; omega)
      have hb0 : Below w.heap.size w (w.alloc (.cells (madeCells #[.int .u8 0] m) 5)) := (Below.refl _ _).alloc (Nat.le_refl _) _
      generalize hW : (w.alloc (.cells (madeCells #[.int .u8 0] m) 5)) = W1 at hrow hb0
      have hmk1 := hmk w
      rw [hW] at hmk1
      clear hmk hW
      go_enter Tryz.func253, Tryz.ntmps253
      go_wp2_with (first
        | (go_at_call 258; refine (HK _).out.mono ?_; rintro e w' ⟨rfl, rfl⟩)
        | (go_at_call 257; refine (HC _).out.mono ?_; rintro e w' ⟨rfl, rfl⟩)
        | (go_at_call 259; refine (HN _).out.mono ?_; rintro e w' ⟨rfl, rfl⟩))
      clear hmk1
      go_loopw [23] (fun i wr => ∃ (j : Nat) (bs : List Nat), i = .int .i64 j ∧ j ≤ l.length ∧ (∀ x ∈ l.take j, x < 2 ^ k) ∧ RowN .u8 5 wr w.heap.size w.heap.size m bs ∧ bs.length = m ∧ (∀ x ∈ bs, x < 2 ^ 8) ∧
        big 8 bs = big k (l.take j) ∧ Below w.heap.size w wr) (fun i _ => l.length - (intOf i).toNat)
      case atStart => exact ⟨0, _, rfl, Nat.zero_le _, by simp, hrow, by simp, zeros_lt 8 m, by rw [big_zeros]; rfl, hb0⟩
      case round =>
        obtain ⟨j, bs, rfl, hj, hx, hrw, hlen, hbs, hbig, hbel⟩ := hrel
        have HX := Lib.hid hx; have HL := Lib.hid hlen; have HG := Lib.hid hbig; clear hx hlen hbig
        by_cases hlt : j < l.length
        · obtain ⟨A', c', hv', _, _, hcell⟩ := HR.out.below (hbel.mono hB)
          cases hv'
          obtain ⟨ad, rfl, had, hcj⟩ := hcell j hlt
          clear hcell
          have hV64 := hl _ (get_mem hlt)
          have hbt := big_take (w := k) hlt
          have htl := fun h => take_lt (w := k) hlt HX.out h
          have hmem := get_mem hlt
          generalize l.getD j 0 = V at *
          have HBT := Lib.hid hbt; have HTL := Lib.hid htl; have HME := Lib.hid hmem; clear hbt htl hmem
          have hd := shr_ne (V := V) (k := k)
          by_cases hV : V < 2 ^ k
          · rw [decide_eq_false (by simpa using hV)] at hd
            have hjk : j * k ≤ 4096 * 64 := Nat.mul_le_mul (by omega) hk64
            have hjk1 : (j : Int) * (k : Int) ≤ 262144 := by rw [← Int.natCast_mul]; omega
            have hjk2 : 0 ≤ (j : Int) * (k : Int) := by rw [← Int.natCast_mul]; omega
            have hput := putbits_at ((j : Int) * (k : Int)) (V : Int) m V (k * j) w.heap.size w.heap.size m bs wr (by rw [Nat.mul_comm]; push_cast; rfl) rfl HL.out (by simpa using hV64) (by rw [Nat.mul_comm]; omega) hrw hbs (by rw [HL.out]; omega)
              (by rw [HG.out]; exact big_take_lt hj HX.out)
              (by rw [HG.out, HL.out, ← HBT.out, ← HM.out]; exact Nat.lt_of_lt_of_le (big_take_lt hlt (HTL.out hV)) (pow_need hlt))
            have HPUT := Lib.hid hput; clear hput
            go_wp2_with (go_at_call 270; refine HPUT.out.mono ?_; rintro e w' ⟨rfl, bs', hrw', hlen', hbs', hbig', hbel'⟩)
            go_roundw
            case rel => exact ⟨j + 1, bs', by go_num, hlt, HTL.out hV, hrw', hlen'.trans HL.out, hbs', by rw [hbig', HBT.out, HG.out], hbel.trans hbel'⟩
            case measure => simp [intOf] <;> omega
          · rw [decide_eq_true hV] at hd
            go_wp2
            go_ret2
            refine RetB.mk ?_ hbel
            rw [packR_over hk64 hn HME.out hV]; rfl
        · have hjl : j = l.length := by omega
          have hall : ∀ x ∈ l, x < 2 ^ k := fun x hm => HX.out x (by rw [hjl, List.take_length]; exact hm)
          have hbs2 : bs = digs 8 m (big k l) := digs_of hbs HL.out (by rw [HG.out, hjl, List.take_length])
          have HB2 := Lib.hid hbs2; clear hbs2
          have hcv := run_string_of_own (P := Tryz.prog) 41 9 5 Tryz.underlying41 Tryz.underlying5 Tryz.underlying9 (RowN.ownB hrw hbs)
          rw [HL.out] at hcv
          go_wp2
          go_ret2
          refine RetB.mk ?_ hbel
          rw [packR_ok hk64 hn hall]
          unfold packed
          rw [HM.out, ← HB2.out]; rfl
    · have h1 := fun w => iscount_any (l.length : Nat) w
      rw [decide_eq_false (by omega)] at h1
      have HC := fun w => Lib.hid (h1 w); clear h1
      rw [packR_full hk64 (by omega)]
      go_enter Tryz.func253, Tryz.ntmps253
      go_wp2_with (first
        | (go_at_call 258; refine (HK _).out.mono ?_; rintro e w' ⟨rfl, rfl⟩)
        | (go_at_call 257; refine (HC _).out.mono ?_; rintro e w' ⟨rfl, rfl⟩))
      go_ret2
      exact RetB.mk rfl (Below.refl _ _)
  · have h1 := fun w => iswidth_any k w
    rw [decide_eq_false hk] at h1
    have HK := fun w => Lib.hid (h1 w); clear h1
    rw [packR_range (by omega)]
    go_enter Tryz.func253, Tryz.ntmps253
    go_wp2_with (first
      | (go_at_call 258; refine (HK _).out.mono ?_; rintro e w' ⟨rfl, rfl⟩))
    go_ret2
    exact RetB.mk rfl (Below.refl _ _)
end Go.Proofs.YtnmlajmaffiigaaGreatDoor

namespace Go.Proofs.YtnmlajmaffiigaaGreatDoor
open Go.RowKit Go.VB Go.VarM Go.BP

theorem or_bit {B q : Nat} (hq : q < 8) (hB : B < 2 ^ q) : bits .or .u8 (B : Int) (IntKind.u8.wrap (2 ^ q)) = ((B + 2 ^ q : Nat) : Int) ∧ B + 2 ^ q < 2 ^ 8 := by
  have hp : 2 ^ q + 2 ^ q ≤ 2 ^ 8 := by
    have : 2 ^ (q + 1) ≤ 2 ^ 8 := Nat.pow_le_pow_right (by decide) (by omega)
    rw [Nat.pow_succ] at this; omega
  rw [show (2 : Nat) ^ 8 = 256 from by decide] at hp ⊢
  refine ⟨?_, by omega⟩
  have e : IntKind.u8.wrap (2 ^ q) = ((2 ^ q : Nat) : Int) := by
    have e0 : ((2 : Int) ^ q) = ((2 ^ q : Nat) : Int) := by push_cast; rfl
    have := Nat.two_pow_pos q
    rw [e0, IntWalk.u8_in _ ⟨by omega, by omega⟩]
  rw [e, u8_or_nat B _ (by omega) (by omega), Nat.or_comm, nat_join q (2 ^ q) B (Nat.mod_self _) hB, Nat.add_comm]

end Go.Proofs.YtnmlajmaffiigaaGreatDoor

namespace Go.BP
open Go.RowKit Go.VB
end Go.BP
namespace Go.Proofs.YtnmlajmaffiigaaGreatDoor
open Go.RowKit Go.VB Go.VarM Go.BP
end Go.Proofs.YtnmlajmaffiigaaGreatDoor

namespace Go.Proofs.YtnmlajmaffiigaaGreatDoor
open Go.RowKit Go.VB Go.BP Go.NU

theorem and1_8 {b : Nat} (h : b < 256) : bits .and .u8 (b : Int) 1 = ((b % 2 : Nat) : Int) := by
  have := u8_and_nat b 1 h (by decide)
  rw [Nat.and_one_is_mod] at this
  exact this
set_option maxHeartbeats 400000 in
theorem nbytes_any (n : Nat) (w : World) (h : n ≤ 1152921504606846976) :
    Calls Tryz.prog 202 #[.int .i64 (n : Int)] w (Ret (.int .i64 ((n + 7) / 8 : Nat)) w) := by
  go_enter Tryz.func202, Tryz.ntmps202
  go_wp2
  go_ret
  exact Ret.mk (vint (by omega))
set_option maxHeartbeats 400000 in
theorem nones_any (b : Nat) (w : World) (h : b < 256) :
    Calls Tryz.prog 203 #[.int .u8 (b : Int)] w (Ret (.int .i64 (ones b 8 : Nat)) w) := by
  have h8 := ones_le b 8
  generalize hT : ones b 8 = T at h8 ⊢
  have HT := Lib.hid hT; clear hT
  go_enter Tryz.func203, Tryz.ntmps203
  go_wp2
  go_loop [0, 3] (fun a k => ∃ x c : Nat, a = .int .u8 x ∧ k = .int .i64 c ∧ x < 256 ∧ c ≤ 8 ∧ c + ones x 8 = T) (fun a _ => (intOf a).toNat)
  case atStart => exact ⟨b, 0, rfl, rfl, h, by omega, by rw [HT.out]; omega⟩
  case round =>
    obtain ⟨x, c, rfl, rfl, hx, hc, hsum⟩ := hrel
    have h1 := ones_half hx
    have ha := and1_8 hx
    have h2 : x % 2 ≤ 1 := by omega
    generalize hp : x % 2 = p at h1 ha h2
    have HP := Lib.hid hp; clear hp
    have HS := Lib.hid hsum; have H1 := Lib.hid h1; clear hsum h1
    by_cases hz : x = 0
    · subst hz
      have hd : (((0 : Nat) : Int) != 0) = false := rfl
      have HZ := Lib.hid (ones_none 8)
      clear ha
      go_wp2
      go_ret
      exact Ret.mk (vint (by have := HS.out; rw [HZ.out] at this; omega))
    · have hd : ((x : Int) != 0) = true := by simp; omega
      have hcp : c + p ≤ 8 := by have := HS.out; rw [H1.out] at this; omega
      go_wp2
      go_round
      case rel => exact ⟨x / 2, c + p, by go_num, by go_num, by omega, hcp, by have := HS.out; rw [H1.out] at this; omega⟩
      case measure => simp [intOf] <;> omega
set_option maxHeartbeats 400000 in
theorem ncount_any (s : ByteArray) (w : World) (hs : s.size ≤ 140737488351232) :
    Calls Tryz.prog 158 #[.string s] w (Ret (.int .i64 (ones (num s) (8 * s.size) : Nat)) w) := by
  have hb := get_bN s
  go_enter Tryz.func158, Tryz.ntmps158
  go_wp2
  go_loop [3, 7] (fun k i => ∃ j : Nat, k = .int .i64 (ones (num s) (8 * j) : Nat) ∧ i = .int .i64 j ∧ j ≤ s.size) (fun _ i => s.size - (intOf i).toNat)
  case atStart => exact ⟨0, rfl, rfl, Nat.zero_le _⟩
  case round =>
    obtain ⟨j, rfl, rfl, hj⟩ := hrel
    have hle := ones_le (num s) (8 * j)
    have hst := ones_byte s j
    have h8 := ones_le (bN s j) 8
    have hc := nones_any (bN s j) w (bN_lt s j)
    generalize hk : ones (num s) (8 * j) = k at hle hst ⊢
    generalize ones (bN s j) 8 = q at hst h8 hc
    have HS := Lib.hid hst; have HK := Lib.hid hk; have HC := Lib.hid hc; clear hst hk hc
    by_cases hlt : j < s.size
    · go_wp2_with (go_at_call 203; refine HC.out.mono ?_; rintro e w' ⟨rfl, rfl⟩)
      go_round
      case rel => exact ⟨j + 1, vint (by rw [← HS.out]; push_cast; rfl), by go_num, hlt⟩
      case measure => simp [intOf] <;> omega
    · have hjs : j = s.size := by omega
      have hkk : ones (num s) (8 * s.size) = k := by rw [← hjs]; exact HK.out
      have HKK := Lib.hid hkk; clear hjs hkk
      go_wp2
      go_ret
      exact Ret.mk (by rw [HKK.out]; rfl)
end Go.Proofs.YtnmlajmaffiigaaGreatDoor

namespace Go.Proofs.YtnmlajmaffiigaaGreatDoor
open Go.RowKit Go.VB Go.BP Go.NU
theorem take_step {l : List Bool} {j : Nat} {b : Bool} (h : l[j]? = some b) : big 1 ((d01 l).take (j + 1)) = big 1 ((d01 l).take j) + b.toNat * 2 ^ j := by
  have hj : j < l.length := (List.getElem?_eq_some_iff.1 h).1
  rw [big_take (by rw [d01_len]; exact hj), d01_get h, Nat.one_mul]
theorem take_lim {l : List Bool} {j : Nat} (h : j ≤ l.length) : big 1 ((d01 l).take j) < 2 ^ j := by
  have := big_take_lt (w := 1) (l := d01 l) (j := j) (by rw [d01_len]; exact h) (fun x hx => d01_lt l x (List.mem_of_mem_take hx))
  rwa [Nat.one_mul] at this
set_option maxRecDepth 100000 in
set_option maxHeartbeats 2000000 in
theorem npack_any (vl : Value) (l : List Bool) (B : Nat) (w : World) (hr : RdV Value.bool w B vl l) (hB : B ≤ w.heap.size) (hl : l.length ≤ 140737488351232) :
    Calls Tryz.prog 157 #[vl] w (RetB (.string (bmp l)) w) := by
  obtain ⟨A, c, rfl, hc1, hc2, hr'⟩ := hr
  have hr : RdV Value.bool w B (.slice A l.length c) l := ⟨A, c, rfl, hc1, hc2, hr'⟩
  clear hr'
  unfold maxLen at hc2
  have HR := Lib.hid hr; clear hr
  have hm : (l.length + 7) / 8 ≤ 140737488351232 := by omega
  have hbm : bmp l = str ((digs 8 ((l.length + 7) / 8) (big 1 (d01 l))).map UInt8.ofNat) := by unfold bmp packed; rw [d01_len, Nat.mul_one]
  have HBM := Lib.hid hbm; clear hbm
  have HNB := fun w => Lib.hid (nbytes_any l.length w (by omega))
  generalize hM : (l.length + 7) / 8 = m at hm HBM HNB
  have HM := Lib.hid hM; clear hM
  have hmk := run_makeN (P := Tryz.prog) Tryz.underlying41 Tryz.infoB8 m (by omega) (by unfold maxLen; omega)
  have hrow := RowN.made .u8 5 w w.heap.size m (Nat.le_refl _) (by unfold maxLen; omega)
  have hb0 : Below w.heap.size w (w.alloc (.cells (madeCells #[.int .u8 0] m) 5)) := (Below.refl _ _).alloc (Nat.le_refl _) _
  generalize hW : (w.alloc (.cells (madeCells #[.int .u8 0] m) 5)) = W1 at hrow hb0
  have hmk1 := hmk w
  rw [hW] at hmk1
  clear hmk hW
  go_enter Tryz.func157, Tryz.ntmps157
  go_wp2_with (go_at_call 202; refine (HNB _).out.mono ?_; rintro e w' ⟨rfl, rfl⟩)
  clear hmk1
  go_loopw [12] (fun i wr => ∃ (j : Nat) (bs : List Nat), i = .int .i64 j ∧ j ≤ l.length ∧ RowN .u8 5 wr w.heap.size w.heap.size m bs ∧ bs.length = m ∧ (∀ x ∈ bs, x < 2 ^ 8) ∧
    big 8 bs = big 1 ((d01 l).take j) ∧ Below w.heap.size w wr) (fun i _ => l.length - (intOf i).toNat)
  case atStart => exact ⟨0, _, rfl, Nat.zero_le _, hrow, by simp, zeros_lt 8 m, by rw [big_zeros]; rfl, hb0⟩
  case round =>
    obtain ⟨j, bs, rfl, hj, hrw, hlen, hbs, hbig, hbel⟩ := hrel
    have HL := Lib.hid hlen; have HG := Lib.hid hbig; clear hlen hbig
    by_cases hlt : j < l.length
    · obtain ⟨A', c', hv', _, _, hcell⟩ := HR.out.below (hbel.mono hB)
      cases hv'
      have hlj : l[j]? = some l[j] := List.getElem?_eq_getElem hlt
      obtain ⟨ad, rfl, had, hcj⟩ := hcell j _ hlj
      clear hcell
      have hts := take_step hlj
      have hlim := take_lim hj
      generalize l[j] = b at *
      have HLJ := Lib.hid hlj; clear hlj
      cases b with
      | true =>
        have hin : j / 8 < bs.length := by have := HM.out; rw [HL.out]; omega
        have hat : j = 8 * (j / 8) + j % 8 := by omega
        have hlow : big 8 bs < 2 ^ (8 * (j / 8) + j % 8) := by rw [HG.out, ← hat]; exact hlim
        have hc := hrw.cell _ hin
        have hf := hrw.frozen (j / 8)
        have hBl := digit_lt hbs hlow
        obtain ⟨hor, hfit⟩ := or_bit (Nat.mod_lt j (by decide)) hBl
        have hset := big_set (w := 8) hin (2 ^ (j % 8))
        have hpow : 2 ^ (j % 8) * 2 ^ (8 * (j / 8)) = 2 ^ j := by rw [← Nat.pow_add]; congr 1; omega
        have hst := hrw.store (j / 8) (bs.getD (j / 8) 0 + 2 ^ (j % 8))
        rw [← hor] at hst
        have hin2 : j / 8 < m := by rw [← HL.out]; exact hin
        generalize bs.getD (j / 8) 0 = B0 at *
        have HSE := Lib.hid hset; have HPO := Lib.hid hpow; have HAT := Lib.hid hat; have HTS := Lib.hid hts; have HO := Lib.hid hor
        clear hset hpow hat hts hlow hBl hor
        go_wp2_with fail
        go_region
        go_wp2_with fail
        clear hc hf
        go_roundw
        case rel =>
          refine ⟨j + 1, bs.set (j / 8) (B0 + 2 ^ (j % 8)), by go_num, hlt, hst.drew, by rw [List.length_set]; exact HL.out, set_lt hbs hfit, ?_, (hbel.setCell (Nat.le_refl _) _).drew⟩
          rw [HSE.out, HG.out, HPO.out, HTS.out]; simp
        case measure => simp [intOf] <;> omega
      | false =>
        have hbg : big 8 bs = big 1 ((d01 l).take (j + 1)) := by rw [HG.out, hts]; simp
        have HBG := Lib.hid hbg; clear hts hlim hbg
        go_wp2
        go_roundw
        case rel => exact ⟨j + 1, bs, by go_num, hlt, hrw, HL.out, hbs, HBG.out, hbel⟩
        case measure => simp [intOf] <;> omega
    · have hjl : j = l.length := by omega
      have hbs2 : bs = digs 8 m (big 1 (d01 l)) := digs_of hbs HL.out (by rw [HG.out, hjl, ← d01_len, List.take_length])
      have HB2 := Lib.hid hbs2; clear hbs2
      have hcv := run_string_of_own (P := Tryz.prog) 41 9 5 Tryz.underlying41 Tryz.underlying5 Tryz.underlying9 (RowN.ownB hrw hbs)
      rw [HL.out] at hcv
      go_wp2
      go_ret
      refine RetB.mk ?_ hbel
      rw [HBM.out, ← HB2.out]; rfl
end Go.Proofs.YtnmlajmaffiigaaGreatDoor

namespace Go.Proofs.YtnmlajmaffiigaaGreatDoor
open Go.RowKit Go.VB Go.BP Go.NU
end Go.Proofs.YtnmlajmaffiigaaGreatDoor
