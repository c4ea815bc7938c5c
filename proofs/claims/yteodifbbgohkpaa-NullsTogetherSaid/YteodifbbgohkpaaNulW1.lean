/- The walks over package nulls and its reference: single bits, counting. -/
import Derived.Test.YteodifbbgohkpaaNul
import Derived.Test.YteodifbbgohkpaaMemV
import Derived.Test.YteodifbbgohkpaaBitW5
import Derived.StillTailTactics
namespace Go.Proofs.Yteodifbbgohkpaa
open Go.RowKit Go.VB Go.BP Go.NU

theorem and1_8 {b : Nat} (h : b < 256) : bits .and .u8 (b : Int) 1 = ((b % 2 : Nat) : Int) := by
  have := u8_and_nat b 1 h (by decide)
  rw [Nat.and_one_is_mod] at this
  exact this
theorem mask_8 {b k : Nat} (h : b < 256) (hk : k < 8) : bits .and .u8 (b : Int) (IntKind.u8.wrap (IntKind.u8.wrap (2 ^ k) - 1)) = ((b % 2 ^ k : Nat) : Int) := by
  have hp := Nat.two_pow_pos k
  have hq : 2 ^ k ≤ 2 ^ 7 := Nat.pow_le_pow_right (by decide) (by omega)
  rw [show (2 : Nat) ^ 7 = 128 from by decide] at hq
  have e0 : ((2 : Int) ^ k) = ((2 ^ k : Nat) : Int) := by push_cast; rfl
  have e : IntKind.u8.wrap (IntKind.u8.wrap (2 ^ k) - 1) = ((2 ^ k - 1 : Nat) : Int) := by
    rw [e0, IntWalk.u8_in ((2 ^ k : Nat) : Int) ⟨by omega, by omega⟩, IntWalk.u8_in _ ⟨by omega, by omega⟩]
    omega
  rw [e, u8_and_nat b _ h (by omega), Nat.and_two_pow_sub_one_eq_mod]
theorem mask_8' {b k : Nat} (h : b < 256) (hk : k < 8) : bits .and .u8 (b : Int) ((2 ^ k - 1) % 256) = ((b % 2 ^ k : Nat) : Int) := by
  have hp := Nat.two_pow_pos k
  have hq : 2 ^ k ≤ 2 ^ 7 := Nat.pow_le_pow_right (by decide) (by omega)
  rw [show (2 : Nat) ^ 7 = 128 from by decide] at hq
  have e0 : ((2 : Int) ^ k) = ((2 ^ k : Nat) : Int) := by push_cast; rfl
  have e : (((2 : Int) ^ k) - 1) % 256 = ((2 ^ k - 1 : Nat) : Int) := by rw [e0]; omega
  rw [e, u8_and_nat b _ h (by omega), Nat.and_two_pow_sub_one_eq_mod]
theorem shr_and (s : ByteArray) (i : Nat) : bits .and .u8 ((bN s (i / 8) : Int) / 2 ^ (i % 8)) 1 = ((num s / 2 ^ i % 2 : Nat) : Int) := by
  have e : ((bN s (i / 8) : Int) / 2 ^ (i % 8)) = ((bN s (i / 8) / 2 ^ (i % 8) : Nat) : Int) := by push_cast; rfl
  have h : bN s (i / 8) / 2 ^ (i % 8) < 256 := Nat.lt_of_le_of_lt (Nat.div_le_self _ _) (bN_lt s (i / 8))
  rw [e, and1_8 h, bit_of_byte]
theorem bit_is (N i : Nat) : ((((N / 2 ^ i % 2 : Nat) : Int)) == 1) = bitN N i := by
  unfold bitN
  rw [Bool.eq_iff_iff, beq_iff_eq, decide_eq_true_iff]
  omega
set_option maxHeartbeats 400000 in
theorem nbytes_any (n : Nat) (w : World) (h : n ≤ 1152921504606846976) :
    Calls Try.prog 21 #[.int .i64 (n : Int)] w (Ret (.int .i64 ((n + 7) / 8 : Nat)) w) := by
  go_enter Try.func21, Try.ntmps21
  go_wp2
  go_ret
  exact Ret.mk (vint (by omega))
set_option maxHeartbeats 400000 in
theorem nones_any (b : Nat) (w : World) (h : b < 256) :
    Calls Try.prog 22 #[.int .u8 (b : Int)] w (Ret (.int .i64 (ones b 8 : Nat)) w) := by
  have h8 := ones_le b 8
  generalize hT : ones b 8 = T at h8 ⊢
  have HT := Lib.hid hT; clear hT
  go_enter Try.func22, Try.ntmps22
  go_wp2
  go_loop [0, 3] (fun a k => ∃ x c : Nat, a = .int .u8 x ∧ k = .int .i64 c ∧ x < 256 ∧ c ≤ 8 ∧ c + ones x 8 = T) (fun a _ => (intOf a).toNat)
  case atStart => exact ⟨b, 0, rfl, rfl, h, by omega, by rw [HT.out]; omega⟩
  case round =>
    obtain ⟨x, c, rfl, rfl, hx, hc, hsum⟩ := hrel
    have h1 := ones_half hx
    have ha := and1_8 hx
    have h2 : x % 2 ≤ 1 := by omega
    generalize hp : x % 2 = p at h1 ha h2
    have HP := Lib.hid hp; clear hp
    have HS := Lib.hid hsum; have H1 := Lib.hid h1; clear hsum h1
    by_cases hz : x = 0
    · subst hz
      have hd : (((0 : Nat) : Int) != 0) = false := rfl
      have HZ := Lib.hid (ones_none 8)
      clear ha
      go_wp2
      go_ret
      exact Ret.mk (vint (by have := HS.out; rw [HZ.out] at this; omega))
    · have hd : ((x : Int) != 0) = true := by simp; omega
      have hcp : c + p ≤ 8 := by have := HS.out; rw [H1.out] at this; omega
      go_wp2
      go_round
      case rel => exact ⟨x / 2, c + p, by go_num, by go_num, by omega, hcp, by have := HS.out; rw [H1.out] at this; omega⟩
      case measure => simp [intOf] <;> omega
set_option maxHeartbeats 400000 in
theorem rbit_any (s : ByteArray) (i : Nat) (w : World) (hs : s.size ≤ 140737488351232) (h : i < 8 * s.size) :
    Calls Try.prog 25 #[.string s, .int .i64 (i : Int)] w (Ret (.bool (bitN (num s) i)) w) := by
  have hb := get_bN s
  have hbl := bN_lt s (i / 8)
  have ha := shr_and s i
  have hi := bit_is (num s) i
  have hin : i / 8 < s.size := by omega
  generalize num s / 2 ^ i % 2 = x at ha hi
  generalize bitN (num s) i = t at hi ⊢
  go_enter Try.func25, Try.ntmps25
  go_wp2
  go_ret
  exact Ret.mk rfl
set_option maxHeartbeats 400000 in
theorem rsize_any (n : Int) (w : World) : Calls Try.prog 24 #[.int .i64 n] w (Ret (.bool (decide (0 ≤ n ∧ n ≤ 4096))) w) := by
  by_cases h0 : n < 0
  · rw [decide_eq_false (by omega)]
    go_enter Try.func24, Try.ntmps24
    go_wp2
    go_ret
    exact Ret.mk rfl
  have hd0 : decide (0 ≤ n) = true := decide_eq_true (by omega)
  by_cases h1 : 4096 < n
  · rw [decide_eq_false (by omega)]
    have hd1 : decide (n ≤ 4096) = false := decide_eq_false (by omega)
    go_enter Try.func24, Try.ntmps24
    go_wp2
    go_ret
    exact Ret.mk (by rw [← hd1]; rfl)
  have hd1 : decide (n ≤ 4096) = true := decide_eq_true (by omega)
  rw [decide_eq_true (by omega)]
  go_enter Try.func24, Try.ntmps24
  go_wp2
  go_ret
  exact Ret.mk (by rw [← hd1]; rfl)
set_option maxHeartbeats 400000 in
theorem nrest_any (s : ByteArray) (used : Nat) (w : World) (hu : used ≤ 1000000) (hs : s.size = (used + 7) / 8) :
    Calls Try.prog 23 #[.string s, .int .i64 used] w (Ret (.bool (decide (num s < 2 ^ used))) w) := by
  have hb := get_bN s
  have hrz := Lib.hid (rest_zero hs)
  have hs1 : s.size ≤ 125001 := by omega
  have hbl := bN_lt s (used / 8)
  by_cases h0 : used % 8 = 0
  · have hd : ((used : Int) % 8 == 0) = true := by simp; omega
    have h0' := Lib.hid h0; clear h0
    have hs' := Lib.hid hs; clear hs
    go_enter Try.func23, Try.ntmps23
    go_wp2
    go_ret
    refine Ret.mk ?_
    show Value.bool _ = Value.bool _
    rw [decide_eq_true (hrz.out.2 (.inl h0'.out))]
  · have hd : ((used : Int) % 8 == 0) = false := by simp; omega
    have hin : used / 8 < s.size := by omega
    have h0' := Lib.hid h0; clear h0
    have hs' := Lib.hid hs; clear hs
    go_enter Try.func23, Try.ntmps23
    go_wp2
    go_ret
    refine Ret.mk ?_
    show Value.bool _ = Value.bool _
    refine congrArg Value.bool ?_
    have e : ((bN s (used / 8) : Int) / 2 ^ (used % 8)) = ((bN s (used / 8) / 2 ^ (used % 8) : Nat) : Int) := by push_cast; rfl
    rw [e, Bool.eq_iff_iff, beq_iff_eq, decide_eq_true_iff, hrz.out]
    have := h0'.out
    omega
set_option maxHeartbeats 400000 in
theorem ncount_any (s : ByteArray) (w : World) (hs : s.size ≤ 140737488351232) :
    Calls Try.prog 12 #[.string s] w (Ret (.int .i64 (ones (num s) (8 * s.size) : Nat)) w) := by
  have hb := get_bN s
  go_enter Try.func12, Try.ntmps12
  go_wp2
  go_loop [3, 7] (fun k i => ∃ j : Nat, k = .int .i64 (ones (num s) (8 * j) : Nat) ∧ i = .int .i64 j ∧ j ≤ s.size) (fun _ i => s.size - (intOf i).toNat)
  case atStart => exact ⟨0, rfl, rfl, Nat.zero_le _⟩
  case round =>
    obtain ⟨j, rfl, rfl, hj⟩ := hrel
    have hle := ones_le (num s) (8 * j)
    have hst := ones_byte s j
    have h8 := ones_le (bN s j) 8
    have hc := nones_any (bN s j) w (bN_lt s j)
    generalize hk : ones (num s) (8 * j) = k at hle hst ⊢
    generalize ones (bN s j) 8 = q at hst h8 hc
    have HS := Lib.hid hst; have HK := Lib.hid hk; have HC := Lib.hid hc; clear hst hk hc
    by_cases hlt : j < s.size
    · go_wp2_with (go_at_call 22; refine HC.out.mono ?_; rintro e w' ⟨rfl, rfl⟩)
      go_round
      case rel => exact ⟨j + 1, vint (by rw [← HS.out]; push_cast; rfl), by go_num, hlt⟩
      case measure => simp [intOf] <;> omega
    · have hjs : j = s.size := by omega
      have hkk : ones (num s) (8 * s.size) = k := by rw [← hjs]; exact HK.out
      have HKK := Lib.hid hkk; clear hjs hkk
      go_wp2
      go_ret
      exact Ret.mk (by rw [HKK.out]; rfl)
set_option maxHeartbeats 400000 in
theorem rcount_any (s : ByteArray) (w : World) (hs : s.size ≤ 140737488351232) :
    Calls Try.prog 19 #[.string s] w (Ret (.int .i64 (ones (num s) (8 * s.size) : Nat)) w) := by
  go_enter Try.func19, Try.ntmps19
  go_wp2
  go_loop [3, 4] (fun k i => ∃ j : Nat, k = .int .i64 (ones (num s) j : Nat) ∧ i = .int .i64 j ∧ j ≤ 8 * s.size) (fun _ i => 8 * s.size - (intOf i).toNat)
  case atStart => exact ⟨0, rfl, rfl, Nat.zero_le _⟩
  case round =>
    obtain ⟨j, rfl, rfl, hj⟩ := hrel
    have hle := ones_le (num s) j
    have hst := ones_succ (num s) j
    generalize hk : ones (num s) j = k at hle hst ⊢
    have HS := Lib.hid hst; have HK := Lib.hid hk; clear hst hk
    by_cases hlt : j < 8 * s.size
    · have hc := rbit_any s j w hs hlt
      have HB : Hid (bitN (num s) j = decide (num s / 2 ^ j % 2 = 1)) := Lib.hid rfl
      have HM := Lib.hid (Nat.mod_lt (num s / 2 ^ j) (show 0 < 2 by decide))
      generalize bitN (num s) j = t at hc HB
      have HC := Lib.hid hc; clear hc
      cases t with
      | true =>
        go_wp2_with (go_at_call 25; refine HC.out.mono ?_; rintro e w' ⟨rfl, rfl⟩)
        go_round
        case rel => exact ⟨j + 1, vint (by have := of_decide_eq_true HB.out.symm; rw [HS.out, this]; push_cast; rfl), by go_num, hlt⟩
        case measure => simp [intOf] <;> omega
      | false =>
        go_wp2_with (go_at_call 25; refine HC.out.mono ?_; rintro e w' ⟨rfl, rfl⟩)
        go_round
        case rel => exact ⟨j + 1, vint (by have := of_decide_eq_false HB.out.symm; have := HM.out; rw [HS.out]; omega), by go_num, hlt⟩
        case measure => simp [intOf] <;> omega
    · have hjs : j = 8 * s.size := by omega
      have hkk : ones (num s) (8 * s.size) = k := by rw [← hjs]; exact HK.out
      have HKK := Lib.hid hkk; clear hjs hkk
      go_wp2
      go_ret
      exact Ret.mk (by rw [HKK.out]; rfl)
end Go.Proofs.Yteodifbbgohkpaa
