/- The walks over package bitpack and its reference: widths, needs, reading bits. -/
import Derived.Test.YtjoohmifbkbpbaaBits
import Derived.Test.YtjoohmifbkbpbaaKit
namespace Go.Proofs.Ytjoohmifbkbpbaa
open Go.RowKit Go.VB Go.VarM Go.BP

set_option maxHeartbeats 400000 in
theorem bwidth_any (n : Nat) (w : World) (h : n < 18446744073709551616) :
    Calls Try.prog 35 #[.int .u64 (n : Int)] w (Ret (.int .i64 (wid n : Nat)) w) := by
  have h64 := wid_64 h
  go_enter Try.func35, Try.ntmps35
  go_wp2
  go_loop [0, 3] (fun v s => ∃ (x k : Nat), v = .int .u64 x ∧ x < 18446744073709551616 ∧ s = .int .i64 k ∧ k + wid x = wid n)
    (fun v _ => (intOf v).toNat)
  case atStart => exact ⟨n, 0, rfl, h, rfl, by omega⟩
  case round =>
    obtain ⟨x, k, rfl, hx, rfl, hk⟩ := hrel
    have hle : k ≤ 64 := by omega
    have HK := Lib.hid hk; clear hk
    by_cases hz : 0 < x
    · have hd : ((x : Int) != 0) = true := by simp; omega
      go_wp2
      go_round
      case rel =>
        refine ⟨x / 2, k + 1, by go_num, by omega, by go_num, ?_⟩
        have := HK.out
        rw [wid_pos hz] at this
        omega
      case measure => simp [intOf] <;> omega
    · have hz0 : x = 0 := by omega
      subst hz0
      go_wp2
      go_ret
      refine Ret.mk ?_
      have := HK.out
      rw [wid_zero] at this
      rw [← this]; rfl
set_option maxHeartbeats 400000 in
theorem rwidth_any (n : Nat) (w : World) (h : n < 18446744073709551616) :
    Calls Try.prog 26 #[.int .u64 (n : Int)] w (Ret (.int .i64 (wid n : Nat)) w) := by
  have h64 := wid_64 h
  go_enter Try.func26, Try.ntmps26
  go_wp2
  go_loop [0, 3] (fun v s => ∃ (x k : Nat), v = .int .u64 x ∧ x < 18446744073709551616 ∧ s = .int .i64 k ∧ k + wid x = wid n)
    (fun v _ => (intOf v).toNat)
  case atStart => exact ⟨n, 0, rfl, h, rfl, by omega⟩
  case round =>
    obtain ⟨x, k, rfl, hx, rfl, hk⟩ := hrel
    have hle : k ≤ 64 := by omega
    have HK := Lib.hid hk; clear hk
    by_cases hz : 0 < x
    · go_wp2
      go_round
      case rel =>
        refine ⟨x / 2, k + 1, by go_num, by omega, by go_num, ?_⟩
        have := HK.out
        rw [wid_pos hz] at this
        omega
      case measure => simp [intOf] <;> omega
    · have hz0 : x = 0 := by omega
      subst hz0
      go_wp2
      go_ret
      refine Ret.mk ?_
      have := HK.out
      rw [wid_zero] at this
      rw [← this]; rfl
set_option maxHeartbeats 400000 in
theorem iscount_any (n : Int) (w : World) : Calls Try.prog 49 #[.int .i64 n] w (Ret (.bool (decide (0 ≤ n ∧ n ≤ 4096))) w) := by
  by_cases h0 : 0 ≤ n
  · go_enter Try.func49, Try.ntmps49
    go_wp2
    go_ret
    exact Ret.mk (by simp [h0])
  · go_enter Try.func49, Try.ntmps49
    go_wp2
    go_ret
    exact Ret.mk (by simp; omega)
set_option maxHeartbeats 400000 in
theorem iswidth_any (n : Int) (w : World) : Calls Try.prog 48 #[.int .i64 n] w (Ret (.bool (decide (0 ≤ n ∧ n ≤ 64))) w) := by
  by_cases h0 : 0 ≤ n
  · go_enter Try.func48, Try.ntmps48
    go_wp2
    go_ret
    exact Ret.mk (by simp [h0])
  · go_enter Try.func48, Try.ntmps48
    go_wp2
    go_ret
    exact Ret.mk (by simp; omega)
theorem or_get {V B low got : Nat} (hV : V < 2 ^ got) (hg : got ≤ 63) (hB : B < 256) :
    bits .or .u64 (V : Int) (IntKind.u64.wrap (IntKind.u64.wrap ((B : Int) / 2 ^ low) * 2 ^ got)) = ((V + B / 2 ^ low % 2 ^ (64 - got) * 2 ^ got : Nat) : Int) := by
  have h1 : B / 2 ^ low ≤ B := Nat.div_le_self _ _
  have e1 : ((B : Int) / 2 ^ low) = ((B / 2 ^ low : Nat) : Int) := by push_cast; rfl
  rw [e1]
  generalize B / 2 ^ low = x at *
  have hp : (2 : Nat) ^ 64 = 2 ^ (64 - got) * 2 ^ got := by rw [← Nat.pow_add, show 64 - got + got = 64 from by omega]
  have hx : x % 2 ^ (64 - got) < 2 ^ (64 - got) := Nat.mod_lt _ (Nat.two_pow_pos _)
  have hlt : x % 2 ^ (64 - got) * 2 ^ got + V < 2 ^ 64 := by
    rw [hp]
    have : (x % 2 ^ (64 - got) + 1) * 2 ^ got ≤ 2 ^ (64 - got) * 2 ^ got := Nat.mul_le_mul_right _ hx
    rw [Nat.add_mul] at this
    omega
  rw [show (2 : Nat) ^ 64 = 18446744073709551616 from by decide] at hlt hp
  have e2 : IntKind.u64.wrap (IntKind.u64.wrap (x : Int) * 2 ^ got) = ((x % 2 ^ (64 - got) * 2 ^ got : Nat) : Int) := by
    rw [IntWalk.u64_in (x : Int) ⟨by omega, by omega⟩, IntKind.wrap_u64]
    have : ((x : Int) * 2 ^ got) = ((x * 2 ^ got : Nat) : Int) := by push_cast; rfl
    rw [this, show (18446744073709551616 : Int) = ((18446744073709551616 : Nat) : Int) from rfl, ← Int.natCast_emod, hp, Nat.mul_mod_mul_right]
  rw [e2, u64_or_nat V _ (by omega) (by omega), Nat.or_comm, nat_join got _ V (Nat.mul_mod_left _ _) hV, Nat.add_comm]
theorem get_join (N at' got : Nat) (hg : got ≤ 63) : N / 2 ^ at' % 2 ^ got % 2 ^ 64 + N / 2 ^ (8 * ((at' + got) / 8)) % 2 ^ 8 / 2 ^ ((at' + got) % 8) % 2 ^ (64 - got) * 2 ^ got =
    N / 2 ^ at' % 2 ^ (got + (8 - (at' + got) % 8)) % 2 ^ 64 := by
  have hlo : N / 2 ^ at' % 2 ^ got < 2 ^ got := Nat.mod_lt _ (Nat.two_pow_pos _)
  have hp : (2 : Nat) ^ 64 = 2 ^ got * 2 ^ (64 - got) := by rw [← Nat.pow_add, show got + (64 - got) = 64 from by omega]
  have hle : (2 : Nat) ^ got ≤ 2 ^ 64 := Nat.pow_le_pow_right (by decide) (by omega)
  rw [byte_shr _ _ _ (by omega), show 8 * ((at' + got) / 8) + (at' + got) % 8 = at' + got from by omega, ← get_step N at' got]
  generalize N / 2 ^ (at' + got) % 2 ^ (8 - (at' + got) % 8) = x
  generalize N / 2 ^ at' % 2 ^ got = V at *
  rw [Nat.mod_eq_of_lt (show V < 2 ^ 64 from by omega), hp, Nat.mod_mul, Nat.add_mul_mod_self_right, Nat.mod_eq_of_lt hlo, Nat.add_mul_div_right _ _ (Nat.two_pow_pos _), Nat.div_eq_of_lt hlo, Nat.zero_add, Nat.mul_comm]
theorem mask_low (V k : Nat) (hk : k ≤ 64) (hV : V < 2 ^ 64) : bits .and .u64 (V : Int) (IntKind.u64.wrap (IntKind.u64.wrap (2 ^ k) - 1)) = ((V % 2 ^ k : Nat) : Int) := by
  rw [show (2 : Nat) ^ 64 = 18446744073709551616 from by decide] at hV
  have hp := Nat.two_pow_pos k
  have e0 : ((2 : Int) ^ k) = ((2 ^ k : Nat) : Int) := by push_cast; rfl
  have e : IntKind.u64.wrap (IntKind.u64.wrap (2 ^ k) - 1) = ((2 ^ k - 1 : Nat) : Int) := by
    rw [e0, IntKind.wrap_u64, IntKind.wrap_u64]
    by_cases h : k = 64
    · subst h; decide
    · have : 2 ^ k ≤ 2 ^ 63 := Nat.pow_le_pow_right (by decide) (by omega)
      rw [show (2 : Nat) ^ 63 = 9223372036854775808 from by decide] at this
      generalize 2 ^ k = p at *
      omega
  have hm : 2 ^ k - 1 < 18446744073709551616 := by
    have : 2 ^ k ≤ 2 ^ 64 := Nat.pow_le_pow_right (by decide) hk
    rw [show (2 : Nat) ^ 64 = 18446744073709551616 from by decide] at this
    omega
  rw [e, u64_and_nat V _ hV hm, Nat.and_two_pow_sub_one_eq_mod]
theorem get_low (N a got k : Nat) (h : k ≤ got) (hk : k ≤ 64) : N / 2 ^ a % 2 ^ got % 2 ^ 64 % 2 ^ k = N / 2 ^ a % 2 ^ k := by
  rw [Nat.mod_mod_of_dvd _ (Nat.pow_dvd_pow 2 hk), Nat.mod_mod_of_dvd _ (Nat.pow_dvd_pow 2 h)]
set_option maxHeartbeats 400000 in
theorem getbits_any (s : ByteArray) (at' k : Nat) (w : World) (hs : s.size ≤ 100000) (hk : k ≤ 64) (hat : at' + k ≤ 8 * s.size) :
    Calls Try.prog 54 #[.string s, .int .i64 at', .int .i64 k] w (Ret (.int .u64 (num s / 2 ^ at' % 2 ^ k : Nat)) w) := by
  have hb := get_bN s
  go_enter Try.func54, Try.ntmps54
  go_wp2
  go_loop [7, 8] (fun v g => ∃ (got : Nat), g = .int .i64 got ∧ got ≤ k + 7 ∧ v = .int .u64 (num s / 2 ^ at' % 2 ^ got % 2 ^ 64 : Nat)) (fun _ g => 100 - (intOf g).toNat)
  case atStart => exact ⟨0, rfl, by omega, by simp [Nat.mod_one]⟩
  case round =>
    obtain ⟨got, rfl, hg, rfl⟩ := hrel
    generalize hV : num s / 2 ^ at' % 2 ^ got % 2 ^ 64 = V
    have HV := Lib.hid hV; clear hV
    by_cases hlt : got < k
    · have hbl := bN_lt s ((at' + got) / 8)
      have hor := or_get (V := V) (B := bN s ((at' + got) / 8)) (low := (at' + got) % 8) (got := got) (by rw [← HV.out]; exact Nat.lt_of_le_of_lt (Nat.mod_le _ _) (Nat.mod_lt _ (Nat.two_pow_pos _))) (by omega) hbl
      have HO := Lib.hid hor; clear hor
      have hj := get_join (num s) at' got (by omega)
      rw [HV.out, num_byte] at hj
      have HJ := Lib.hid hj; clear hj
      go_wp2
      go_round
      case rel =>
        refine ⟨got + (8 - (at' + got) % 8), by congr 1; omega, by omega, ?_⟩
        rw [HO.out, HJ.out]
      case measure => simp [intOf] <;> omega
    · go_wp2
      go_ret
      refine Ret.mk (vint (Eq.trans (mask_low V k hk ?_) ?_))
      · rw [← HV.out]; exact Nat.mod_lt _ (by decide)
      · rw [← HV.out, get_low _ _ _ _ (by omega) hk]; push_cast; rfl
set_option maxHeartbeats 400000 in
theorem restzero_any (s : ByteArray) (used : Nat) (w : World) (hu : used ≤ 1000000) (hs : s.size = (used + 7) / 8) :
    Calls Try.prog 53 #[.string s, .int .i64 used] w (Ret (.bool (decide (num s < 2 ^ used))) w) := by
  have hb := get_bN s
  have hrz := Lib.hid (rest_zero hs)
  have hs1 : s.size ≤ 125001 := by omega
  have hbl := bN_lt s (used / 8)
  by_cases h0 : used % 8 = 0
  · have hd : ((used : Int) % 8 == 0) = true := by simp; omega
    have h0' := Lib.hid h0; clear h0
    have hs' := Lib.hid hs; clear hs
    go_enter Try.func53, Try.ntmps53
    go_wp2
    go_ret
    refine Ret.mk ?_
    show Value.bool _ = Value.bool _
    rw [decide_eq_true (hrz.out.2 (.inl h0'.out))]
  · have hd : ((used : Int) % 8 == 0) = false := by simp; omega
    have hin : used / 8 < s.size := by omega
    have h0' := Lib.hid h0; clear h0
    have hs' := Lib.hid hs; clear hs
    go_enter Try.func53, Try.ntmps53
    go_wp2
    go_ret
    refine Ret.mk ?_
    show Value.bool _ = Value.bool _
    refine congrArg Value.bool ?_
    have e : ((bN s (used / 8) : Int) / 2 ^ (used % 8)) = ((bN s (used / 8) / 2 ^ (used % 8) : Nat) : Int) := by push_cast; rfl
    rw [e, Bool.eq_iff_iff, beq_iff_eq, decide_eq_true_iff, hrz.out]
    have := h0'.out
    omega
set_option maxHeartbeats 400000 in
theorem bneed_any (n k : Int) (w : World) :
    Calls Try.prog 44 #[.int .i64 n, .int .i64 k] w (Ret (.int .i64 (needN n k)) w) := by
  by_cases hn : 0 ≤ n ∧ n ≤ 4096
  · have hc := fun w => iscount_any n w
    rw [decide_eq_true hn] at hc
    have HC := fun w => Lib.hid (hc w); clear hc
    by_cases hk : 0 ≤ k ∧ k ≤ 64
    · have hc := fun w => iswidth_any k w
      rw [decide_eq_true hk] at hc
      have HK := fun w => Lib.hid (hc w); clear hc
      obtain ⟨n, rfl⟩ := Int.eq_ofNat_of_zero_le hn.1
      obtain ⟨k, rfl⟩ := Int.eq_ofNat_of_zero_le hk.1
      obtain ⟨_, hn⟩ := hn
      obtain ⟨_, hk⟩ := hk
      rw [needN_in (by omega) (by omega)]
      have hm : n * k ≤ 4096 * 64 := Nat.mul_le_mul (by omega) (by omega)
      have hm1 : (n : Int) * (k : Int) ≤ 262144 := by rw [← Int.natCast_mul]; omega
      have hm2 : 0 ≤ (n : Int) * (k : Int) := by rw [← Int.natCast_mul]; omega
      go_enter Try.func44, Try.ntmps44
      go_wp2_with (first
        | (go_at_call 49; refine (HC _).out.mono ?_; rintro e w' ⟨rfl, rfl⟩)
        | (go_at_call 48; refine (HK _).out.mono ?_; rintro e w' ⟨rfl, rfl⟩))
      go_ret
      refine Ret.mk (vint ?_)
      push_cast; omega
    · have hc := fun w => iswidth_any k w
      rw [decide_eq_false hk] at hc
      have HK := fun w => Lib.hid (hc w); clear hc
      rw [needN_out (by omega)]
      go_enter Try.func44, Try.ntmps44
      go_wp2_with (first
        | (go_at_call 49; refine (HC _).out.mono ?_; rintro e w' ⟨rfl, rfl⟩)
        | (go_at_call 48; refine (HK _).out.mono ?_; rintro e w' ⟨rfl, rfl⟩))
      go_ret
      exact Ret.mk rfl
  · have hc := fun w => iscount_any n w
    rw [decide_eq_false hn] at hc
    have HC := fun w => Lib.hid (hc w); clear hc
    rw [needN_out (by omega)]
    go_enter Try.func44, Try.ntmps44
    go_wp2_with (first
      | (go_at_call 49; refine (HC _).out.mono ?_; rintro e w' ⟨rfl, rfl⟩))
    go_ret
    exact Ret.mk rfl
set_option maxHeartbeats 400000 in
theorem rneed_any (n k : Int) (w : World) :
    Calls Try.prog 37 #[.int .i64 n, .int .i64 k] w (Ret (.int .i64 (needN n k)) w) := by
  by_cases hn1 : n < 0
  · rw [needN_out (by omega)]
    go_enter Try.func37, Try.ntmps37
    go_wp2
    go_ret
    exact Ret.mk rfl
  · by_cases hn2 : 4096 < n
    · rw [needN_out (by omega)]
      go_enter Try.func37, Try.ntmps37
      go_wp2
      go_ret
      exact Ret.mk rfl
    · by_cases hk1 : k < 0
      · rw [needN_out (by omega)]
        go_enter Try.func37, Try.ntmps37
        go_wp2
        go_ret
        exact Ret.mk rfl
      · by_cases hk2 : 64 < k
        · rw [needN_out (by omega)]
          go_enter Try.func37, Try.ntmps37
          go_wp2
          go_ret
          exact Ret.mk rfl
        · obtain ⟨n, rfl⟩ := Int.eq_ofNat_of_zero_le (show 0 ≤ n by omega)
          obtain ⟨k, rfl⟩ := Int.eq_ofNat_of_zero_le (show 0 ≤ k by omega)
          rw [needN_in (by omega) (by omega)]
          have hm : n * k ≤ 4096 * 64 := Nat.mul_le_mul (by omega) (by omega)
          have hm1 : (n : Int) * (k : Int) ≤ 262144 := by rw [← Int.natCast_mul]; omega
          have hm2 : 0 ≤ (n : Int) * (k : Int) := by rw [← Int.natCast_mul]; omega
          go_enter Try.func37, Try.ntmps37
          go_wp2
          go_ret
          exact Ret.mk (vint rfl)
end Go.Proofs.Ytjoohmifbkbpbaa
