/- Several texts in one: Nul NulW1 NulW2 NulW3. -/
import Derived.Test.YtbolbbngncnecaaGreatG2
import Derived.Test.YtbolbbngncnecaaGreatG0
import Derived.StillTailTactics
import Derived.Deep.RegionWith
/- Bitmaps: lists of truth values as digits in base 2, and the number of ones. -/
namespace Go.NU
open Go.RowKit Go.VB Go.BP

/-- A list of truth values as digits. -/
def d01 (l : List Bool) : List Nat := l.map Bool.toNat
theorem d01_len (l : List Bool) : (d01 l).length = l.length := List.length_map _
theorem d01_lt (l : List Bool) : ∀ x ∈ d01 l, x < 2 ^ 1 := by
  intro x hx
  simp only [d01, List.mem_map] at hx
  obtain ⟨b, _, rfl⟩ := hx
  cases b <;> decide
theorem d01_get {l : List Bool} {j : Nat} {b : Bool} (h : l[j]? = some b) : (d01 l).getD j 0 = b.toNat := by
  rw [List.getD_eq_getElem?_getD, d01, List.getElem?_map, h]; rfl
/-- The bitmap of a list. -/
def bmp (l : List Bool) : ByteArray := str (packed (d01 l) 1)
theorem bmp_size (l : List Bool) : (bmp l).size = (l.length + 7) / 8 := by
  rw [bmp, str_size, packed_len, d01_len, Nat.mul_one]
theorem bmp_big (l : List Bool) : big 1 (d01 l) < 2 ^ l.length := by
  have := big_lt (d01_lt l)
  rwa [d01_len, Nat.one_mul] at this
theorem bmp_num (l : List Bool) : num (bmp l) = big 1 (d01 l) := by
  unfold bmp packed
  rw [num_digs, d01_len]
  exact Nat.mod_eq_of_lt (Nat.lt_of_lt_of_le (bmp_big l) (Nat.pow_le_pow_right (by decide) (by omega)))
/-- Bit i of a number. -/
def bitN (N i : Nat) : Bool := decide (N / 2 ^ i % 2 = 1)
theorem bit_bmp {l : List Bool} {i : Nat} {b : Bool} (h : l[i]? = some b) : num (bmp l) / 2 ^ i % 2 = b.toNat := by
  have h1 := big_div (d01_lt l) i
  rw [d01_get h, Nat.one_mul] at h1
  rw [bmp_num]; exact h1
def bools (n N : Nat) : List Bool := (List.range n).map (bitN N)
theorem bools_len (n N : Nat) : (bools n N).length = n := by simp [bools]
theorem bools_get {n N i : Nat} (h : i < n) : (bools n N)[i]? = some (bitN N i) := by simp [bools, h]
theorem bools_succ (n N : Nat) : bools (n + 1) N = bools n N ++ [bitN N n] := by simp [bools, List.range_succ]
theorem bools_bmp (l : List Bool) : bools l.length (num (bmp l)) = l := by
  apply List.ext_getElem?
  intro i
  by_cases hi : i < l.length
  · have hb : l[i]? = some l[i] := List.getElem?_eq_getElem hi
    rw [bools_get hi, hb, bitN, bit_bmp hb]
    cases l[i] <;> rfl
  · rw [List.getElem?_eq_none (by rw [bools_len]; omega), List.getElem?_eq_none (by omega)]
theorem bools_set {n j N : Nat} (h : j < n) : (bools j N ++ List.replicate (n - j) false).set j (bitN N j) = bools (j + 1) N ++ List.replicate (n - (j + 1)) false := by
  obtain ⟨d, rfl⟩ : ∃ d, n = j + 1 + d := ⟨n - (j + 1), by omega⟩
  rw [List.set_append, if_neg (by rw [bools_len]; omega), bools_len, Nat.sub_self, show j + 1 + d - j = d + 1 from by omega, List.replicate_succ, List.set_cons_zero, bools_succ,
    show j + 1 + d - (j + 1) = d from by omega, List.append_assoc]
  rfl

/-- What Unpack finds. -/
def upk (s : ByteArray) (n : Int) : List Bool × Nat :=
  if n < 0 ∨ 4096 < n then ([], 4) else if s.size < (n.toNat + 7) / 8 then ([], 10) else
  if (n.toNat + 7) / 8 < s.size ∨ ¬ num s < 2 ^ n.toNat then ([], 2) else (bools n.toNat (num s), 0)
theorem upk_range {s : ByteArray} {n : Int} (h : n < 0 ∨ 4096 < n) : upk s n = ([], 4) := by unfold upk; rw [if_pos h]
theorem upk_short {s : ByteArray} {n : Nat} (hn : n ≤ 4096) (h : s.size < (n + 7) / 8) : upk s n = ([], 10) := by
  unfold upk; rw [if_neg (by omega), Int.toNat_natCast, if_pos h]
theorem upk_long {s : ByteArray} {n : Nat} (hn : n ≤ 4096) (h : (n + 7) / 8 < s.size) : upk s n = ([], 2) := by
  unfold upk; rw [if_neg (by omega), Int.toNat_natCast, if_neg (by omega), if_pos (.inl h)]
theorem upk_rest {s : ByteArray} {n : Nat} (hn : n ≤ 4096) (h : s.size = (n + 7) / 8) (hr : ¬ num s < 2 ^ n) : upk s n = ([], 2) := by
  unfold upk; rw [if_neg (by omega), Int.toNat_natCast, if_neg (by omega), if_pos (.inr hr)]
theorem upk_ok {s : ByteArray} {n : Nat} (hn : n ≤ 4096) (h : s.size = (n + 7) / 8) (hr : num s < 2 ^ n) : upk s n = (bools n (num s), 0) := by
  unfold upk; rw [if_neg (by omega), Int.toNat_natCast, if_neg (by omega), if_neg (by omega)]
theorem upk_bmp {l : List Bool} (h : l.length ≤ 4096) : upk (bmp l) l.length = (l, 0) := by
  rw [upk_ok h (bmp_size l) (by rw [bmp_num]; exact bmp_big l), bools_bmp]

/-! the number of ones -/
def ones (N : Nat) : Nat → Nat
  | 0 => 0
  | i + 1 => ones N i + N / 2 ^ i % 2
theorem ones_zero (N : Nat) : ones N 0 = 0 := rfl
theorem ones_succ (N i : Nat) : ones N (i + 1) = ones N i + N / 2 ^ i % 2 := rfl
theorem ones_le (N : Nat) : ∀ i, ones N i ≤ i
  | 0 => Nat.le_refl _
  | i + 1 => by
    have := ones_le N i
    have := Nat.mod_lt (N / 2 ^ i) (show 0 < 2 by decide)
    rw [ones_succ]; omega
theorem ones_add (N a : Nat) : ∀ b, ones N (a + b) = ones N a + ones (N / 2 ^ a) b
  | 0 => rfl
  | b + 1 => by
    rw [← Nat.add_assoc, ones_succ, ones_succ, ones_add N a b, Nat.div_div_eq_div_mul, ← Nat.pow_add, Nat.add_assoc]
theorem ones_mod (N a : Nat) : ∀ b, b ≤ a → ones (N % 2 ^ a) b = ones N b
  | 0, _ => rfl
  | b + 1, h => by
    have e : N % 2 ^ a / 2 ^ b % 2 = N / 2 ^ b % 2 := by
      obtain ⟨d, rfl⟩ : ∃ d, a = b + (d + 1) := ⟨a - b - 1, by omega⟩
      rw [Nat.pow_add, Nat.mod_mul_right_div_self]
      refine Nat.mod_mod_of_dvd _ ?_
      have : (2 : Nat) ^ 1 ∣ 2 ^ (d + 1) := Nat.pow_dvd_pow 2 (by omega)
      simpa using this
    rw [ones_succ, ones_succ, ones_mod N a b (by omega), e]
theorem ones_none (i : Nat) : ones 0 i = 0 := by
  induction i with
  | zero => rfl
  | succ i ih => rw [ones_succ, ih]; simp
theorem ones_byte (s : ByteArray) (j : Nat) : ones (num s) (8 * j) + ones (bN s j) 8 = ones (num s) (8 * (j + 1)) := by
  rw [Nat.mul_add, Nat.mul_one, ones_add, ← num_byte, ones_mod _ 8 8 (Nat.le_refl _)]
theorem ones_part (s : ByteArray) (j low : Nat) (h : low ≤ 8) : ones (num s) (8 * j) + ones (bN s j % 2 ^ low) 8 = ones (num s) (8 * j + low) := by
  obtain ⟨d, hd⟩ : ∃ d, 8 = low + d := ⟨8 - low, by omega⟩
  have e : ones (bN s j % 2 ^ low) 8 = ones (bN s j) low := by
    rw [hd, ones_add, ones_mod _ _ _ (Nat.le_refl _), Nat.div_eq_of_lt (Nat.mod_lt _ (Nat.two_pow_pos _)), ones_none, Nat.add_zero]
  rw [e, ones_add, ← num_byte, ones_mod _ 8 low h]
/-- The ones of a byte, its lowest bit first. -/
theorem ones_half {B : Nat} (h : B < 256) : ones B 8 = B % 2 + ones (B / 2) 8 := by
  have h1 := ones_add B 1 7
  have h2 := ones_succ (B / 2) 7
  have h3 : B / 2 / 2 ^ 7 = 0 := Nat.div_eq_of_lt (by omega)
  have h4 : ones B 1 = B % 2 := by simp [ones]
  rw [h3] at h2
  rw [show 1 + 7 = 8 from rfl, h4, Nat.pow_one] at h1
  simp at h2
  omega
theorem num_take (s : ByteArray) (k : Nat) (h : k ≤ s.size) : num (s.extract 0 k) = num s % 2 ^ (8 * k) := by
  obtain ⟨a, b, hs, ha⟩ : ∃ a b : List UInt8, s.data.toList = a ++ b ∧ a.length = k :=
    ⟨s.data.toList.take k, s.data.toList.drop k, (List.take_append_drop _ _).symm, by rw [List.length_take, size_list]; omega⟩
  have e1 : (s.extract 0 k).data.toList = a := by
    rw [extract_list, hs, Nat.sub_zero, List.drop_zero, ← ha, List.take_left]
  have h2 := big_lt (bytes_lt a)
  rw [List.length_map, ha] at h2
  unfold num
  rw [e1, hs, List.map_append, big_append, List.length_map, ha, Nat.add_mul_mod_self_left, Nat.mod_eq_of_lt h2]
theorem ones_take (s : ByteArray) (k : Nat) (h : k ≤ s.size) : ones (num (s.extract 0 k)) (8 * k) = ones (num s) (8 * k) := by
  rw [num_take s k h, ones_mod _ _ _ (Nat.le_refl _)]

/-- The number of zeros among the first i bits. -/
def zer (N i : Nat) : Nat := i - ones N i
theorem zer_ones (N i : Nat) : zer N i + ones N i = i := by have := ones_le N i; unfold zer; omega
theorem zer_succ (N i : Nat) : zer N (i + 1) = zer N i + (1 - N / 2 ^ i % 2) := by
  have := ones_le N i
  have := Nat.mod_lt (N / 2 ^ i) (show 0 < 2 by decide)
  unfold zer; rw [ones_succ]; omega
theorem zer_le (N : Nat) : ∀ i, zer N i ≤ i := fun i => by unfold zer; omega
theorem zer_mono (N : Nat) {i : Nat} : ∀ {j : Nat}, i ≤ j → zer N i ≤ zer N j
  | 0, h => by rw [show i = 0 by omega]; exact Nat.le_refl _
  | j + 1, h => by
    by_cases he : i = j + 1
    · rw [he]; exact Nat.le_refl _
    · have := zer_mono N (i := i) (j := j) (by omega)
      rw [zer_succ]; omega
/-- Where Rank counts to. -/
def clip (s : ByteArray) (i : Int) : Nat := min i.toNat (8 * s.size)
theorem clip_le (s : ByteArray) (i : Int) : clip s i ≤ 8 * s.size := Nat.min_le_right _ _
theorem clip_is (s : ByteArray) (i : Int) : min (max i 0) ((s.size : Int) * 8) = (clip s i : Int) := by unfold clip; omega
def rk (s : ByteArray) (i : Int) : Nat := zer (num s) (clip s i)
theorem rk_in {s : ByteArray} {i : Nat} (h : i ≤ 8 * s.size) : rk s i = zer (num s) i := by
  unfold rk clip; rw [Int.toNat_natCast, Nat.min_eq_left h]
end Go.NU

/- The walks over package nulls and its reference: single bits, counting. -/
namespace Go.Proofs.YtbolbbngncnecaaGreat
open Go.RowKit Go.VB Go.BP Go.NU

theorem and1_8 {b : Nat} (h : b < 256) : bits .and .u8 (b : Int) 1 = ((b % 2 : Nat) : Int) := by
  have := u8_and_nat b 1 h (by decide)
  rw [Nat.and_one_is_mod] at this
  exact this
theorem mask_8 {b k : Nat} (h : b < 256) (hk : k < 8) : bits .and .u8 (b : Int) (IntKind.u8.wrap (IntKind.u8.wrap (2 ^ k) - 1)) = ((b % 2 ^ k : Nat) : Int) := by
  have hp := Nat.two_pow_pos k
  have hq : 2 ^ k ≤ 2 ^ 7 := Nat.pow_le_pow_right (by decide) (by omega)
  rw [show (2 : Nat) ^ 7 = 128 from by decide] at hq
  have e0 : ((2 : Int) ^ k) = ((2 ^ k : Nat) : Int) := by push_cast; rfl
  have e : IntKind.u8.wrap (IntKind.u8.wrap (2 ^ k) - 1) = ((2 ^ k - 1 : Nat) : Int) := by
    rw [e0, IntWalk.u8_in ((2 ^ k : Nat) : Int) ⟨by omega, by omega⟩, IntWalk.u8_in _ ⟨by omega, by omega⟩]
    omega
  rw [e, u8_and_nat b _ h (by omega), Nat.and_two_pow_sub_one_eq_mod]
theorem mask_8' {b k : Nat} (h : b < 256) (hk : k < 8) : bits .and .u8 (b : Int) ((2 ^ k - 1) % 256) = ((b % 2 ^ k : Nat) : Int) := by
  have hp := Nat.two_pow_pos k
  have hq : 2 ^ k ≤ 2 ^ 7 := Nat.pow_le_pow_right (by decide) (by omega)
  rw [show (2 : Nat) ^ 7 = 128 from by decide] at hq
  have e0 : ((2 : Int) ^ k) = ((2 ^ k : Nat) : Int) := by push_cast; rfl
  have e : (((2 : Int) ^ k) - 1) % 256 = ((2 ^ k - 1 : Nat) : Int) := by rw [e0]; omega
  rw [e, u8_and_nat b _ h (by omega), Nat.and_two_pow_sub_one_eq_mod]
theorem shr_and (s : ByteArray) (i : Nat) : bits .and .u8 ((bN s (i / 8) : Int) / 2 ^ (i % 8)) 1 = ((num s / 2 ^ i % 2 : Nat) : Int) := by
  have e : ((bN s (i / 8) : Int) / 2 ^ (i % 8)) = ((bN s (i / 8) / 2 ^ (i % 8) : Nat) : Int) := by push_cast; rfl
  have h : bN s (i / 8) / 2 ^ (i % 8) < 256 := Nat.lt_of_le_of_lt (Nat.div_le_self _ _) (bN_lt s (i / 8))
  rw [e, and1_8 h, bit_of_byte]
theorem bit_is (N i : Nat) : ((((N / 2 ^ i % 2 : Nat) : Int)) == 1) = bitN N i := by
  unfold bitN
  rw [Bool.eq_iff_iff, beq_iff_eq, decide_eq_true_iff]
  omega
set_option maxHeartbeats 400000 in
theorem nbytes_any (n : Nat) (w : World) (h : n ≤ 1152921504606846976) :
    Calls Tryz.prog 77 #[.int .i64 (n : Int)] w (Ret (.int .i64 ((n + 7) / 8 : Nat)) w) := by
  go_enter Tryz.func77, Tryz.ntmps77
  go_wp2
  go_ret
  exact Ret.mk (vint (by omega))
set_option maxHeartbeats 400000 in
theorem nones_any (b : Nat) (w : World) (h : b < 256) :
    Calls Tryz.prog 78 #[.int .u8 (b : Int)] w (Ret (.int .i64 (ones b 8 : Nat)) w) := by
  have h8 := ones_le b 8
  generalize hT : ones b 8 = T at h8 ⊢
  have HT := Lib.hid hT; clear hT
  go_enter Tryz.func78, Tryz.ntmps78
  go_wp2
  go_loop [0, 3] (fun a k => ∃ x c : Nat, a = .int .u8 x ∧ k = .int .i64 c ∧ x < 256 ∧ c ≤ 8 ∧ c + ones x 8 = T) (fun a _ => (intOf a).toNat)
  case atStart => exact ⟨b, 0, rfl, rfl, h, by omega, by rw [HT.out]; omega⟩
  case round =>
    obtain ⟨x, c, rfl, rfl, hx, hc, hsum⟩ := hrel
    have h1 := ones_half hx
    have ha := and1_8 hx
    have h2 : x % 2 ≤ 1 := by omega
    generalize hp : x % 2 = p at h1 ha h2
    have HP := Lib.hid hp; clear hp
    have HS := Lib.hid hsum; have H1 := Lib.hid h1; clear hsum h1
    by_cases hz : x = 0
    · subst hz
      have hd : (((0 : Nat) : Int) != 0) = false := rfl
      have HZ := Lib.hid (ones_none 8)
      clear ha
      go_wp2
      go_ret
      exact Ret.mk (vint (by have := HS.out; rw [HZ.out] at this; omega))
    · have hd : ((x : Int) != 0) = true := by simp; omega
      have hcp : c + p ≤ 8 := by have := HS.out; rw [H1.out] at this; omega
      go_wp2
      go_round
      case rel => exact ⟨x / 2, c + p, by go_num, by go_num, by omega, hcp, by have := HS.out; rw [H1.out] at this; omega⟩
      case measure => simp [intOf] <;> omega
set_option maxHeartbeats 400000 in
theorem rbit_any (s : ByteArray) (i : Nat) (w : World) (hs : s.size ≤ 140737488351232) (h : i < 8 * s.size) :
    Calls Tryz.prog 93 #[.string s, .int .i64 (i : Int)] w (Ret (.bool (bitN (num s) i)) w) := by
  have hb := get_bN s
  have hbl := bN_lt s (i / 8)
  have ha := shr_and s i
  have hi := bit_is (num s) i
  have hin : i / 8 < s.size := by omega
  generalize num s / 2 ^ i % 2 = x at ha hi
  generalize bitN (num s) i = t at hi ⊢
  go_enter Tryz.func93, Tryz.ntmps93
  go_wp2
  go_ret
  exact Ret.mk rfl
set_option maxHeartbeats 400000 in
theorem rsize_any (n : Int) (w : World) : Calls Tryz.prog 92 #[.int .i64 n] w (Ret (.bool (decide (0 ≤ n ∧ n ≤ 4096))) w) := by
  by_cases h0 : n < 0
  · rw [decide_eq_false (by omega)]
    go_enter Tryz.func92, Tryz.ntmps92
    go_wp2
    go_ret
    exact Ret.mk rfl
  have hd0 : decide (0 ≤ n) = true := decide_eq_true (by omega)
  by_cases h1 : 4096 < n
  · rw [decide_eq_false (by omega)]
    have hd1 : decide (n ≤ 4096) = false := decide_eq_false (by omega)
    go_enter Tryz.func92, Tryz.ntmps92
    go_wp2
    go_ret
    exact Ret.mk (by rw [← hd1]; rfl)
  have hd1 : decide (n ≤ 4096) = true := decide_eq_true (by omega)
  rw [decide_eq_true (by omega)]
  go_enter Tryz.func92, Tryz.ntmps92
  go_wp2
  go_ret
  exact Ret.mk (by rw [← hd1]; rfl)
set_option maxHeartbeats 400000 in
theorem nrest_any (s : ByteArray) (used : Nat) (w : World) (hu : used ≤ 1000000) (hs : s.size = (used + 7) / 8) :
    Calls Tryz.prog 107 #[.string s, .int .i64 used] w (Ret (.bool (decide (num s < 2 ^ used))) w) := by
  have hb := get_bN s
  have hrz := Lib.hid (rest_zero hs)
  have hs1 : s.size ≤ 125001 := by omega
  have hbl := bN_lt s (used / 8)
  by_cases h0 : used % 8 = 0
  · have hd : ((used : Int) % 8 == 0) = true := by simp; omega
    have h0' := Lib.hid h0; clear h0
    have hs' := Lib.hid hs; clear hs
    go_enter Tryz.func107, Tryz.ntmps107
    go_wp2
    go_ret
    refine Ret.mk ?_
    show Value.bool _ = Value.bool _
    rw [decide_eq_true (hrz.out.2 (.inl h0'.out))]
  · have hd : ((used : Int) % 8 == 0) = false := by simp; omega
    have hin : used / 8 < s.size := by omega
    have h0' := Lib.hid h0; clear h0
    have hs' := Lib.hid hs; clear hs
    go_enter Tryz.func107, Tryz.ntmps107
    go_wp2
    go_ret
    refine Ret.mk ?_
    show Value.bool _ = Value.bool _
    refine congrArg Value.bool ?_
    have e : ((bN s (used / 8) : Int) / 2 ^ (used % 8)) = ((bN s (used / 8) / 2 ^ (used % 8) : Nat) : Int) := by push_cast; rfl
    rw [e, Bool.eq_iff_iff, beq_iff_eq, decide_eq_true_iff, hrz.out]
    have := h0'.out
    omega
set_option maxHeartbeats 400000 in
theorem ncount_any (s : ByteArray) (w : World) (hs : s.size ≤ 140737488351232) :
    Calls Tryz.prog 51 #[.string s] w (Ret (.int .i64 (ones (num s) (8 * s.size) : Nat)) w) := by
  have hb := get_bN s
  go_enter Tryz.func51, Tryz.ntmps51
  go_wp2
  go_loop [3, 7] (fun k i => ∃ j : Nat, k = .int .i64 (ones (num s) (8 * j) : Nat) ∧ i = .int .i64 j ∧ j ≤ s.size) (fun _ i => s.size - (intOf i).toNat)
  case atStart => exact ⟨0, rfl, rfl, Nat.zero_le _⟩
  case round =>
    obtain ⟨j, rfl, rfl, hj⟩ := hrel
    have hle := ones_le (num s) (8 * j)
    have hst := ones_byte s j
    have h8 := ones_le (bN s j) 8
    have hc := nones_any (bN s j) w (bN_lt s j)
    generalize hk : ones (num s) (8 * j) = k at hle hst ⊢
    generalize ones (bN s j) 8 = q at hst h8 hc
    have HS := Lib.hid hst; have HK := Lib.hid hk; have HC := Lib.hid hc; clear hst hk hc
    by_cases hlt : j < s.size
    · go_wp2_with (go_at_call 78; refine HC.out.mono ?_; rintro e w' ⟨rfl, rfl⟩)
      go_round
      case rel => exact ⟨j + 1, vint (by rw [← HS.out]; push_cast; rfl), by go_num, hlt⟩
      case measure => simp [intOf] <;> omega
    · have hjs : j = s.size := by omega
      have hkk : ones (num s) (8 * s.size) = k := by rw [← hjs]; exact HK.out
      have HKK := Lib.hid hkk; clear hjs hkk
      go_wp2
      go_ret
      exact Ret.mk (by rw [HKK.out]; rfl)
set_option maxHeartbeats 400000 in
theorem rcount_any (s : ByteArray) (w : World) (hs : s.size ≤ 140737488351232) :
    Calls Tryz.prog 66 #[.string s] w (Ret (.int .i64 (ones (num s) (8 * s.size) : Nat)) w) := by
  go_enter Tryz.func66, Tryz.ntmps66
  go_wp2
  go_loop [3, 4] (fun k i => ∃ j : Nat, k = .int .i64 (ones (num s) j : Nat) ∧ i = .int .i64 j ∧ j ≤ 8 * s.size) (fun _ i => 8 * s.size - (intOf i).toNat)
  case atStart => exact ⟨0, rfl, rfl, Nat.zero_le _⟩
  case round =>
    obtain ⟨j, rfl, rfl, hj⟩ := hrel
    have hle := ones_le (num s) j
    have hst := ones_succ (num s) j
    generalize hk : ones (num s) j = k at hle hst ⊢
    have HS := Lib.hid hst; have HK := Lib.hid hk; clear hst hk
    by_cases hlt : j < 8 * s.size
    · have hc := rbit_any s j w hs hlt
      have HB : Hid (bitN (num s) j = decide (num s / 2 ^ j % 2 = 1)) := Lib.hid rfl
      have HM := Lib.hid (Nat.mod_lt (num s / 2 ^ j) (show 0 < 2 by decide))
      generalize bitN (num s) j = t at hc HB
      have HC := Lib.hid hc; clear hc
      cases t with
      | true =>
        go_wp2_with (go_at_call 93; refine HC.out.mono ?_; rintro e w' ⟨rfl, rfl⟩)
        go_round
        case rel => exact ⟨j + 1, vint (by have := of_decide_eq_true HB.out.symm; rw [HS.out, this]; push_cast; rfl), by go_num, hlt⟩
        case measure => simp [intOf] <;> omega
      | false =>
        go_wp2_with (go_at_call 93; refine HC.out.mono ?_; rintro e w' ⟨rfl, rfl⟩)
        go_round
        case rel => exact ⟨j + 1, vint (by have := of_decide_eq_false HB.out.symm; have := HM.out; rw [HS.out]; omega), by go_num, hlt⟩
        case measure => simp [intOf] <;> omega
    · have hjs : j = 8 * s.size := by omega
      have hkk : ones (num s) (8 * s.size) = k := by rw [← hjs]; exact HK.out
      have HKK := Lib.hid hkk; clear hjs hkk
      go_wp2
      go_ret
      exact Ret.mk (by rw [HKK.out]; rfl)
end Go.Proofs.YtbolbbngncnecaaGreat

/- The walks over package nulls and its reference: Rank and Pack. -/
namespace Go.Proofs.YtbolbbngncnecaaGreat
open Go.RowKit Go.VB Go.BP Go.NU
theorem ncount_at (s : ByteArray) (n : Nat) (w : World) (hs : s.size ≤ 140737488351232) (hn : ones (num s) (8 * s.size) = n) :
    Calls Tryz.prog 51 #[.string s] w (Ret (.int .i64 (n : Int)) w) := by
  subst hn; exact ncount_any s w hs
theorem take_step {l : List Bool} {j : Nat} {b : Bool} (h : l[j]? = some b) : big 1 ((d01 l).take (j + 1)) = big 1 ((d01 l).take j) + b.toNat * 2 ^ j := by
  have hj : j < l.length := (List.getElem?_eq_some_iff.1 h).1
  rw [big_take (by rw [d01_len]; exact hj), d01_get h, Nat.one_mul]
theorem take_lim {l : List Bool} {j : Nat} (h : j ≤ l.length) : big 1 ((d01 l).take j) < 2 ^ j := by
  have := big_take_lt (w := 1) (l := d01 l) (j := j) (by rw [d01_len]; exact h) (fun x hx => d01_lt l x (List.mem_of_mem_take hx))
  rwa [Nat.one_mul] at this
set_option maxRecDepth 100000 in
set_option maxHeartbeats 2000000 in
theorem npack_any (vl : Value) (l : List Bool) (B : Nat) (w : World) (hr : RdV Value.bool w B vl l) (hB : B ≤ w.heap.size) (hl : l.length ≤ 140737488351232) :
    Calls Tryz.prog 50 #[vl] w (RetB (.string (bmp l)) w) := by
  obtain ⟨A, c, rfl, hc1, hc2, hr'⟩ := hr
  have hr : RdV Value.bool w B (.slice A l.length c) l := ⟨A, c, rfl, hc1, hc2, hr'⟩
  clear hr'
  unfold maxLen at hc2
  have HR := Lib.hid hr; clear hr
  have hm : (l.length + 7) / 8 ≤ 140737488351232 := by omega
  have hbm : bmp l = str ((digs 8 ((l.length + 7) / 8) (big 1 (d01 l))).map UInt8.ofNat) := by unfold bmp packed; rw [d01_len, Nat.mul_one]
  have HBM := Lib.hid hbm; clear hbm
  have HNB := fun w => Lib.hid (nbytes_any l.length w (by omega))
  generalize hM : (l.length + 7) / 8 = m at hm HBM HNB
  have HM := Lib.hid hM; clear hM
  have hmk := run_makeN (P := Tryz.prog) Tryz.underlying30 Tryz.infoB8 m (by omega) (by unfold maxLen; omega)
  have hrow := RowN.made .u8 5 w w.heap.size m (Nat.le_refl _) (by unfold maxLen; omega)
  have hb0 : Below w.heap.size w (w.alloc (.cells (madeCells #[.int .u8 0] m) 5)) := (Below.refl _ _).alloc (Nat.le_refl _) _
  generalize hW : (w.alloc (.cells (madeCells #[.int .u8 0] m) 5)) = W1 at hrow hb0
  have hmk1 := hmk w
  rw [hW] at hmk1
  clear hmk hW
  go_enter Tryz.func50, Tryz.ntmps50
  go_wp2_with (go_at_call 77; refine (HNB _).out.mono ?_; rintro e w' ⟨rfl, rfl⟩)
  clear hmk1
  go_loopw [12] (fun i wr => ∃ (j : Nat) (bs : List Nat), i = .int .i64 j ∧ j ≤ l.length ∧ RowN .u8 5 wr w.heap.size w.heap.size m bs ∧ bs.length = m ∧ (∀ x ∈ bs, x < 2 ^ 8) ∧
    big 8 bs = big 1 ((d01 l).take j) ∧ Below w.heap.size w wr) (fun i _ => l.length - (intOf i).toNat)
  case atStart => exact ⟨0, _, rfl, Nat.zero_le _, hrow, by simp, zeros_lt 8 m, by rw [big_zeros]; rfl, hb0⟩
  case round =>
    obtain ⟨j, bs, rfl, hj, hrw, hlen, hbs, hbig, hbel⟩ := hrel
    have HL := Lib.hid hlen; have HG := Lib.hid hbig; clear hlen hbig
    by_cases hlt : j < l.length
    · obtain ⟨A', c', hv', _, _, hcell⟩ := HR.out.below (hbel.mono hB)
      cases hv'
      have hlj : l[j]? = some l[j] := List.getElem?_eq_getElem hlt
      obtain ⟨ad, rfl, had, hcj⟩ := hcell j _ hlj
      clear hcell
      have hts := take_step hlj
      have hlim := take_lim hj
      generalize l[j] = b at *
      have HLJ := Lib.hid hlj; clear hlj
      cases b with
      | true =>
        have hin : j / 8 < bs.length := by have := HM.out; rw [HL.out]; omega
        have hat : j = 8 * (j / 8) + j % 8 := by omega
        have hlow : big 8 bs < 2 ^ (8 * (j / 8) + j % 8) := by rw [HG.out, ← hat]; exact hlim
        have hc := hrw.cell _ hin
        have hf := hrw.frozen (j / 8)
        have hBl := digit_lt hbs hlow
        obtain ⟨hor, hfit⟩ := or_bit (Nat.mod_lt j (by decide)) hBl
        have hset := big_set (w := 8) hin (2 ^ (j % 8))
        have hpow : 2 ^ (j % 8) * 2 ^ (8 * (j / 8)) = 2 ^ j := by rw [← Nat.pow_add]; congr 1; omega
        have hst := hrw.store (j / 8) (bs.getD (j / 8) 0 + 2 ^ (j % 8))
        rw [← hor] at hst
        have hin2 : j / 8 < m := by rw [← HL.out]; exact hin
        generalize bs.getD (j / 8) 0 = B0 at *
        have HSE := Lib.hid hset; have HPO := Lib.hid hpow; have HAT := Lib.hid hat; have HTS := Lib.hid hts; have HO := Lib.hid hor
        clear hset hpow hat hts hlow hBl hor
        go_wp2_with fail
        go_region
        go_wp2_with fail
        clear hc hf
        go_roundw
        case rel =>
          refine ⟨j + 1, bs.set (j / 8) (B0 + 2 ^ (j % 8)), by go_num, hlt, hst.drew, by rw [List.length_set]; exact HL.out, set_lt hbs hfit, ?_, (hbel.setCell (Nat.le_refl _) _).drew⟩
          rw [HSE.out, HG.out, HPO.out, HTS.out]; simp
        case measure => simp [intOf] <;> omega
      | false =>
        have hbg : big 8 bs = big 1 ((d01 l).take (j + 1)) := by rw [HG.out, hts]; simp
        have HBG := Lib.hid hbg; clear hts hlim hbg
        go_wp2
        go_roundw
        case rel => exact ⟨j + 1, bs, by go_num, hlt, hrw, HL.out, hbs, HBG.out, hbel⟩
        case measure => simp [intOf] <;> omega
    · have hjl : j = l.length := by omega
      have hbs2 : bs = digs 8 m (big 1 (d01 l)) := digs_of hbs HL.out (by rw [HG.out, hjl, ← d01_len, List.take_length])
      have HB2 := Lib.hid hbs2; clear hbs2
      have hcv := run_string_of_own (P := Tryz.prog) 30 9 5 Tryz.underlying30 Tryz.underlying5 Tryz.underlying9 (RowN.ownB hrw hbs)
      rw [HL.out] at hcv
      go_wp2
      go_ret
      refine RetB.mk ?_ hbel
      rw [HBM.out, ← HB2.out]; rfl
set_option maxRecDepth 100000 in
set_option maxHeartbeats 2000000 in
theorem rpackb_any (vl : Value) (l : List Bool) (B : Nat) (w : World) (hr : RdV Value.bool w B vl l) (hB : B ≤ w.heap.size) (hl : l.length ≤ 140737488351232) :
    Calls Tryz.prog 16 #[vl] w (RetB (.string (bmp l)) w) := by
  obtain ⟨A, c, rfl, hc1, hc2, hr'⟩ := hr
  have hr : RdV Value.bool w B (.slice A l.length c) l := ⟨A, c, rfl, hc1, hc2, hr'⟩
  clear hr'
  unfold maxLen at hc2
  have HR := Lib.hid hr; clear hr
  have hm : (l.length + 7) / 8 ≤ 140737488351232 := by omega
  have hbm : bmp l = str ((digs 8 ((l.length + 7) / 8) (big 1 (d01 l))).map UInt8.ofNat) := by unfold bmp packed; rw [d01_len, Nat.mul_one]
  have HBM := Lib.hid hbm; clear hbm
  generalize hM : (l.length + 7) / 8 = m at hm HBM
  have hmI : ((l.length : Int) + 7) / 8 = (m : Int) := by rw [← hM]; omega
  have HM := Lib.hid hM; clear hM
  have hmk := run_makeN (P := Tryz.prog) Tryz.underlying30 Tryz.infoB8 m (by omega) (by unfold maxLen; omega)
  have hrow := RowN.made .u8 5 w w.heap.size m (Nat.le_refl _) (by unfold maxLen; omega)
  have hb0 : Below w.heap.size w (w.alloc (.cells (madeCells #[.int .u8 0] m) 5)) := (Below.refl _ _).alloc (Nat.le_refl _) _
  generalize hW : (w.alloc (.cells (madeCells #[.int .u8 0] m) 5)) = W1 at hrow hb0
  have hmk1 := hmk w
  rw [hW] at hmk1
  clear hmk hW
  go_enter Tryz.func16, Tryz.ntmps16
  go_wp2
  clear hmk1 hmI
  go_loopw [13] (fun i wr => ∃ (j : Nat) (bs : List Nat), i = .int .i64 j ∧ j ≤ l.length ∧ RowN .u8 5 wr w.heap.size w.heap.size m bs ∧ bs.length = m ∧ (∀ x ∈ bs, x < 2 ^ 8) ∧
    big 8 bs = big 1 ((d01 l).take j) ∧ Below w.heap.size w wr) (fun i _ => l.length - (intOf i).toNat)
  case atStart => exact ⟨0, _, rfl, Nat.zero_le _, hrow, by simp, zeros_lt 8 m, by rw [big_zeros]; rfl, hb0⟩
  case round =>
    obtain ⟨j, bs, rfl, hj, hrw, hlen, hbs, hbig, hbel⟩ := hrel
    have HL := Lib.hid hlen; have HG := Lib.hid hbig; clear hlen hbig
    by_cases hlt : j < l.length
    · obtain ⟨A', c', hv', _, _, hcell⟩ := HR.out.below (hbel.mono hB)
      cases hv'
      have hlj : l[j]? = some l[j] := List.getElem?_eq_getElem hlt
      obtain ⟨ad, rfl, had, hcj⟩ := hcell j _ hlj
      clear hcell
      have hts := take_step hlj
      have hlim := take_lim hj
      generalize l[j] = b at *
      have HLJ := Lib.hid hlj; clear hlj
      cases b with
      | true =>
        have hin : j / 8 < bs.length := by have := HM.out; rw [HL.out]; omega
        have hat : j = 8 * (j / 8) + j % 8 := by omega
        have hlow : big 8 bs < 2 ^ (8 * (j / 8) + j % 8) := by rw [HG.out, ← hat]; exact hlim
        have hc := hrw.cell _ hin
        have hf := hrw.frozen (j / 8)
        have hBl := digit_lt hbs hlow
        obtain ⟨hor, hfit⟩ := or_bit (Nat.mod_lt j (by decide)) hBl
        have hset := big_set (w := 8) hin (2 ^ (j % 8))
        have hpow : 2 ^ (j % 8) * 2 ^ (8 * (j / 8)) = 2 ^ j := by rw [← Nat.pow_add]; congr 1; omega
        have hst := hrw.store (j / 8) (bs.getD (j / 8) 0 + 2 ^ (j % 8))
        rw [← hor] at hst
        have hin2 : j / 8 < m := by rw [← HL.out]; exact hin
        generalize bs.getD (j / 8) 0 = B0 at *
        have HSE := Lib.hid hset; have HPO := Lib.hid hpow; have HAT := Lib.hid hat; have HTS := Lib.hid hts; have HO := Lib.hid hor
        clear hset hpow hat hts hlow hBl hor
        go_wp2
        clear hc hf
        go_roundw
        case rel =>
          refine ⟨j + 1, bs.set (j / 8) (B0 + 2 ^ (j % 8)), by go_num, hlt, hst, by rw [List.length_set]; exact HL.out, set_lt hbs hfit, ?_, hbel.setCell (Nat.le_refl _) _⟩
          rw [HSE.out, HG.out, HPO.out, HTS.out]; simp
        case measure => simp [intOf] <;> omega
      | false =>
        have hbg : big 8 bs = big 1 ((d01 l).take (j + 1)) := by rw [HG.out, hts]; simp
        have HBG := Lib.hid hbg; clear hts hlim hbg
        go_wp2
        go_roundw
        case rel => exact ⟨j + 1, bs, by go_num, hlt, hrw, HL.out, hbs, HBG.out, hbel⟩
        case measure => simp [intOf] <;> omega
    · have hjl : j = l.length := by omega
      have hbs2 : bs = digs 8 m (big 1 (d01 l)) := digs_of hbs HL.out (by rw [HG.out, hjl, ← d01_len, List.take_length])
      have HB2 := Lib.hid hbs2; clear hbs2
      have hcv := run_string_of_own (P := Tryz.prog) 30 9 5 Tryz.underlying30 Tryz.underlying5 Tryz.underlying9 (RowN.ownB hrw hbs)
      rw [HL.out] at hcv
      go_wp2
      go_ret
      refine RetB.mk ?_ hbel
      rw [HBM.out, ← HB2.out]; rfl
end Go.Proofs.YtbolbbngncnecaaGreat

/- The walks over package nulls and its reference: Unpack; two lists of truth values that are the same; what the statements ask first. -/
namespace Go.Proofs.YtbolbbngncnecaaGreat
open Go.RowKit Go.VB Go.BP Go.NU
theorem Tryz.infB : (Tryz.prog.info? 4).map (fun i => (i.zero, i.size, i.bytes)) = some (some (.bool false), 1, 1) := by kernel_rfl
theorem nrest_at (s : ByteArray) (used : Nat) (b : Bool) (w : World) (hu : used ≤ 1000000) (hs : s.size = (used + 7) / 8) (hb : decide (num s < 2 ^ used) = b) :
    Calls Tryz.prog 107 #[.string s, .int .i64 used] w (Ret (.bool b) w) := by
  subst hb; exact nrest_any s used w hu hs
set_option maxRecDepth 100000 in
set_option maxHeartbeats 2000000 in
theorem nunpack_any (s : ByteArray) (n : Int) (w : World) (zs : s.size ≤ 140737488351232) :
    Calls Tryz.prog 83 #[.string s, .int .i64 n] w (RetVE Value.bool 4 (upk s n).1 (upk s n).2 w) := by
  by_cases h0 : n < 0
  · rw [upk_range (by omega)]
    go_enter Tryz.func83, Tryz.ntmps83
    go_wp2
    go_ret2
    exact RetVE.mk rfl (OwnV.nil _ _ _ _) (Below.refl _ _)
  by_cases h1 : 4096 < n
  · rw [upk_range (by omega)]
    have hd0 : decide (n < 0) = false := decide_eq_false h0
    have hd1 : decide (4096 < n) = true := decide_eq_true h1
    go_enter Tryz.func83, Tryz.ntmps83
    go_wp2
    go_ret2
    exact RetVE.mk rfl (OwnV.nil _ _ _ _) (Below.refl _ _)
  obtain ⟨n, rfl⟩ := Int.eq_ofNat_of_zero_le (show 0 ≤ n by omega)
  have hn : n ≤ 4096 := by omega
  clear h0 h1
  have HNB := fun w => Lib.hid (nbytes_any n w (by omega))
  by_cases hlo : s.size < (n + 7) / 8
  · rw [upk_short hn hlo]
    generalize (n + 7) / 8 = m at *
    go_enter Tryz.func83, Tryz.ntmps83
    go_wp2_with (go_at_call 77; refine (HNB _).out.mono ?_; rintro e w' ⟨rfl, rfl⟩)
    go_ret2
    exact RetVE.mk rfl (OwnV.nil _ _ _ _) (Below.refl _ _)
  by_cases hhi : (n + 7) / 8 < s.size
  · rw [upk_long hn hhi]
    generalize (n + 7) / 8 = m at *
    go_enter Tryz.func83, Tryz.ntmps83
    go_wp2_with (go_at_call 77; refine (HNB _).out.mono ?_; rintro e w' ⟨rfl, rfl⟩)
    go_ret2
    exact RetVE.mk rfl (OwnV.nil _ _ _ _) (Below.refl _ _)
  have hsz : s.size = (n + 7) / 8 := by omega
  by_cases hr : num s < 2 ^ n
  · have HZ := fun w => Lib.hid (nrest_at s n true w (by omega) hsz (decide_eq_true hr))
    rw [upk_ok hn hsz hr]
    have hb := get_bN s
    have hm : (n + 7) / 8 ≤ 513 := by omega
    generalize hM : (n + 7) / 8 = m at *
    have HM := Lib.hid hM; have HSZ := Lib.hid hsz; clear hM hsz
    have hmk := run_makeV (P := Tryz.prog) (z := .bool false) rfl Tryz.underlying45 Tryz.infB n (by omega) (by unfold maxLen; omega)
    have hrow := RowV.made Value.bool false 4 w w.heap.size n (Nat.le_refl _) (by unfold maxLen; omega)
    have hb0 : Below w.heap.size w (w.alloc (.cells (madeCells #[.bool false] n) 4)) := (Below.refl _ _).alloc (Nat.le_refl _) _
    generalize hW : (w.alloc (.cells (madeCells #[.bool false] n) 4)) = W1 at hrow hb0
    have hmk1 := hmk w
    rw [hW] at hmk1
    clear hmk hW hr
    go_enter Tryz.func83, Tryz.ntmps83
    go_wp2_with (first
      | (go_at_call 77; refine (HNB _).out.mono ?_; rintro e w' ⟨rfl, rfl⟩)
      | (go_at_call 107; refine (HZ _).out.mono ?_; rintro e w' ⟨rfl, rfl⟩))
    clear hmk1
    go_loopw [35] (fun i wr => ∃ (j : Nat) (ls : List Bool), i = .int .i64 j ∧ j ≤ n ∧ RowV Value.bool 4 wr w.heap.size w.heap.size n ls ∧ ls.length = n ∧ ls = bools j (num s) ++ List.replicate (n - j) false ∧ Below w.heap.size w wr)
      (fun i _ => n - (intOf i).toNat)
    case atStart => exact ⟨0, _, rfl, Nat.zero_le _, hrow, by simp, by simp [bools], hb0⟩
    case round =>
      obtain ⟨j, ls, rfl, hj, hrw, hlen, hls, hbel⟩ := hrel
      have HL := Lib.hid hlen; have HLS := Lib.hid hls; clear hlen hls
      by_cases hlt : j < n
      · have hset := bools_set (N := num s) hlt
        have hsa := shr_and s j
        have hbi := bit_is (num s) j
        have hbl := bN_lt s (j / 8)
        have hin : j / 8 < s.size := by rw [HSZ.out, ← HM.out]; omega
        generalize num s / 2 ^ j % 2 = x at hsa hbi
        generalize bitN (num s) j = t at hset hbi
        have HSET := Lib.hid hset; clear hset
        have hlj : ls[j]? = some (ls[j]'(by rw [HL.out]; exact hlt)) := List.getElem?_eq_getElem _
        have hc := hrw.cell j _ hlj
        have hf := hrw.frozen j
        have hst := hrw.store j t
        clear hlj
        generalize ls[j]'_ = old at hc
        go_wp2_with fail
        go_roundw
        case rel => exact ⟨j + 1, _, by go_num, hlt, hst, by rw [List.length_set]; exact HL.out, by rw [HLS.out]; exact HSET.out, hbel.setCell (Nat.le_refl _) _⟩
        case measure => simp [intOf] <;> omega
      · have hjn : j = n := by omega
        have hfin : ls = bools n (num s) := by rw [HLS.out, hjn, Nat.sub_self, List.replicate_zero, List.append_nil]
        have HF := Lib.hid hfin; clear hjn hfin
        go_wp2
        go_ret2
        exact RetVE.mk rfl (hrw.own_at HL.out HF.out) hbel
  · have HZ := fun w => Lib.hid (nrest_at s n false w (by omega) hsz (decide_eq_false hr))
    rw [upk_rest hn hsz hr]
    generalize (n + 7) / 8 = m at *
    clear hsz
    go_enter Tryz.func83, Tryz.ntmps83
    go_wp2_with (first
      | (go_at_call 77; refine (HNB _).out.mono ?_; rintro e w' ⟨rfl, rfl⟩)
      | (go_at_call 107; refine (HZ _).out.mono ?_; rintro e w' ⟨rfl, rfl⟩))
    go_ret2
    exact RetVE.mk rfl (OwnV.nil _ _ _ _) (Below.refl _ _)
set_option maxRecDepth 100000 in
set_option maxHeartbeats 2000000 in
theorem runpackb_any (s : ByteArray) (n : Int) (w : World) (zs : s.size ≤ 140737488351232) :
    Calls Tryz.prog 65 #[.string s, .int .i64 n] w (RetVE Value.bool 4 (upk s n).1 (upk s n).2 w) := by
  have h1 := fun w => rsize_any n w
  by_cases hn : 0 ≤ n ∧ n ≤ 4096
  · rw [decide_eq_true hn] at h1
    have HSZ := fun w => Lib.hid (h1 w); clear h1
    obtain ⟨n, rfl⟩ := Int.eq_ofNat_of_zero_le hn.1
    have hn' : n ≤ 4096 := by omega
    clear hn
    by_cases hlo : s.size < (n + 7) / 8
    · rw [upk_short hn' hlo]
      have hd : decide ((s.size : Int) < ((n : Int) + 7) / 8) = true := decide_eq_true (by omega)
      go_enter Tryz.func65, Tryz.ntmps65
      go_wp2_with (go_at_call 92; refine (HSZ _).out.mono ?_; rintro e w' ⟨rfl, rfl⟩)
      go_ret2
      exact RetVE.mk rfl (OwnV.nil _ _ _ _) (Below.refl _ _)
    by_cases hhi : (n + 7) / 8 < s.size
    · rw [upk_long hn' hhi]
      have hd0 : decide ((s.size : Int) < ((n : Int) + 7) / 8) = false := decide_eq_false (by omega)
      have hd : decide (((n : Int) + 7) / 8 < (s.size : Int)) = true := decide_eq_true (by omega)
      go_enter Tryz.func65, Tryz.ntmps65
      go_wp2_with (go_at_call 92; refine (HSZ _).out.mono ?_; rintro e w' ⟨rfl, rfl⟩)
      go_ret2
      exact RetVE.mk rfl (OwnV.nil _ _ _ _) (Below.refl _ _)
    have hsz : s.size = (n + 7) / 8 := by omega
    have hR1 := fun h => upk_rest hn' hsz h
    have hR2 := fun h => upk_ok hn' hsz h
    have HR1 := Lib.hid hR1; have HR2 := Lib.hid hR2; clear hR1 hR2
    have hnlt := num_lt s
    generalize upk s n = R at *
    have hd0 : decide ((s.size : Int) < ((n : Int) + 7) / 8) = false := decide_eq_false (by omega)
    have hd1 : decide (((n : Int) + 7) / 8 < (s.size : Int)) = false := decide_eq_false (by omega)
    have hs5 : s.size ≤ 513 := by omega
    have hn8 : n ≤ 8 * s.size := by omega
    clear hsz hlo hhi
    go_enter Tryz.func65, Tryz.ntmps65
    go_wp2_with (go_at_call 92; refine (HSZ _).out.mono ?_; rintro e w' ⟨rfl, rfl⟩)
    clear hd0 hd1
    go_loopw [6, 7] (fun o i wr => ∃ (j : Nat) (ls : List Bool), i = .int .i64 j ∧ j ≤ 8 * s.size ∧ OwnV Value.bool 4 wr w.heap.size o ls ∧ ls.length = min j n ∧ ls = bools (min j n) (num s) ∧ num s % 2 ^ j < 2 ^ n ∧ Below w.heap.size w wr)
      (fun _ i _ => 8 * s.size - (intOf i).toNat)
    case atStart => exact ⟨0, [], rfl, Nat.zero_le _, OwnV.nil _ _ _ _, by simp, by simp [bools], by simp [Nat.mod_one, Nat.two_pow_pos], Below.refl _ _⟩
    case round =>
      obtain ⟨j, ls, rfl, hj, hown, hlen, hls, hlow, hbel⟩ := hrel
      have HL := Lib.hid hlen; have HLS := Lib.hid hls; have HLO := Lib.hid hlow; clear hlen hls hlow
      by_cases hlt : j < 8 * s.size
      · have HBI := fun w => Lib.hid (rbit_any s j w zs hlt)
        have HMS := Lib.hid (mod_succ (num s) j)
        have HB : Hid (bitN (num s) j = decide (num s / 2 ^ j % 2 = 1)) := Lib.hid rfl
        have HM := Lib.hid (Nat.mod_lt (num s / 2 ^ j) (show 0 < 2 by decide))
        have HSU := Lib.hid (bools_succ j (num s))
        have hsize := hbel.size
        by_cases hjn : j < n
        · have hmin : min j n = j := by omega
          have hmin1 : min (j + 1) n = j + 1 := by omega
          have HMI := Lib.hid hmin; have HMI1 := Lib.hid hmin1; clear hmin hmin1
          have hl5 : ls.length ≤ 4096 := by rw [HL.out]; omega
          generalize bitN (num s) j = t at HB HBI HSU
          go_wp2_with (first
            | (go_at_call 93; refine (HBI _).out.mono ?_; rintro e w' ⟨rfl, rfl⟩)
            | (at_builtin; refine wpl_appV (f := Value.bool) (fun _ => rfl) (.bool false) rfl rfl _ _ 45 rfl w.heap.size 4 1 Tryz.underlying45 Tryz.infB _ ls rfl (hown.alloc _) (wr.heap.size + 1) _ [t] rfl (RdV.one _ _ _ _ _ (by decide) (by decide)) (by unfold maxLen; simp; omega) (by simp; omega) (by simp; omega) ?_))
          intro v' w' hown' hb' _
          go_wp2
          go_roundw
          case rel => exact ⟨j + 1, _, by go_num, hlt, hown', by rw [List.length_append, HL.out, HMI.out, HMI1.out]; rfl, by rw [HLS.out, HMI.out, HMI1.out, HSU.out], Nat.lt_of_lt_of_le (Nat.mod_lt _ (Nat.two_pow_pos _)) (Nat.pow_le_pow_right (by decide) hjn), (hbel.alloc hsize _).trans hb'⟩
          case measure => simp [intOf] <;> omega
        · have hmin : min j n = min (j + 1) n := by omega
          have HMI := Lib.hid hmin; clear hmin HSU
          generalize bitN (num s) j = t at HB HBI
          cases t with
          | true =>
            have hno := bit_big (of_decide_eq_true HB.out.symm) (Nat.le_of_not_lt hjn)
            have hR := HR1.out hno
            have HRR := Lib.hid hR; clear hR hno
            go_wp2_with (go_at_call 93; refine (HBI _).out.mono ?_; rintro e w' ⟨rfl, rfl⟩)
            go_ret2
            rw [HRR.out]
            exact RetVE.mk rfl (OwnV.nil _ _ _ _) hbel
          | false =>
            have hz : num s / 2 ^ j % 2 = 0 := by have := of_decide_eq_false HB.out.symm; have := HM.out; omega
            have hlow' : num s % 2 ^ (j + 1) < 2 ^ n := by rw [HMS.out, hz]; simpa using HLO.out
            have HLW := Lib.hid hlow'; clear hz hlow'
            go_wp2_with (go_at_call 93; refine (HBI _).out.mono ?_; rintro e w' ⟨rfl, rfl⟩)
            go_roundw
            case rel => exact ⟨j + 1, ls, by go_num, hlt, hown, by rw [HL.out, HMI.out], by rw [HLS.out, HMI.out], HLW.out, hbel⟩
            case measure => simp [intOf] <;> omega
      · have hj8 : j = 8 * s.size := by omega
        have hN : num s % 2 ^ j = num s := by rw [hj8]; exact Nat.mod_eq_of_lt hnlt
        have hlow := HLO.out
        rw [hN] at hlow
        have hR := HR2.out hlow
        have hfin : ls = bools n (num s) := by rw [HLS.out, show min j n = n by omega]
        have HF := Lib.hid hfin; have HRR := Lib.hid hR
        clear hj8 hN hlow hR hfin
        go_wp2
        go_ret2
        rw [HRR.out]
        exact RetVE.mk rfl (by rw [← HF.out]; exact hown) hbel
  · rw [decide_eq_false hn] at h1
    have HSZ := fun w => Lib.hid (h1 w); clear h1
    rw [upk_range (by omega)]
    go_enter Tryz.func65, Tryz.ntmps65
    go_wp2_with (go_at_call 92; refine (HSZ _).out.mono ?_; rintro e w' ⟨rfl, rfl⟩)
    go_ret2
    exact RetVE.mk rfl (OwnV.nil _ _ _ _) (Below.refl _ _)
theorem bmp_tft : bmp [true, false, true] = ⟨#[5]⟩ := by decide +kernel
theorem npack_eq (vl : Value) (l : List Bool) (B : Nat) (w : World) (hr : RdV Value.bool w B vl l) (hB : B ≤ w.heap.size) (hl : l.length ≤ 140737488351232) {s : ByteArray} (h : bmp l = s) :
    Calls Tryz.prog 50 #[vl] w (RetB (.string s) w) := by
  subst h; exact npack_any vl l B w hr hB hl
theorem rdv_tft (w : World) (e : TypeId) (m : Nat) (hm : 3 ≤ m) (hm2 : m ≤ maxLen) : RdV Value.bool (w.alloc (.cells #[.bool true, .bool false, .bool true] e)) (w.heap.size + 1) (.slice (some ⟨w.heap.size, 0, none⟩) 3 m) [true, false, true] :=
  RdV.lit Value.bool w [true, false, true] m e hm hm2
end Go.Proofs.YtbolbbngncnecaaGreat
