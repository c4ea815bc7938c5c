/- The walks over Unpack of package bitpack and of its reference. -/
import Derived.Test.YtjoohmifbkbpbaaBitW4
namespace Go.BP
open Go.RowKit Go.VB
theorem digs_set {k n j N : Nat} (h : j < n) : (digs k j N ++ List.replicate (n - j) 0).set j (N / 2 ^ (k * j) % 2 ^ k) = digs k (j + 1) N ++ List.replicate (n - (j + 1)) 0 := by
  obtain ⟨d, rfl⟩ : ∃ d, n = j + 1 + d := ⟨n - (j + 1), by omega⟩
  rw [List.set_append, if_neg (by rw [digs_len]; omega), digs_len, Nat.sub_self, show j + 1 + d - j = d + 1 from by omega, List.replicate_succ, List.set_cons_zero, digs_succ,
    show j + 1 + d - (j + 1) = d from by omega, List.append_assoc]
  rfl
theorem bit_of_byte (s : ByteArray) (j : Nat) : bN s (j / 8) / 2 ^ (j % 8) % 2 = num s / 2 ^ j % 2 := by
  rw [← num_byte, byte_shr _ _ _ (by omega), show 8 * (j / 8) + j % 8 = j from by omega]
  exact Nat.mod_mod_of_dvd _ (by
    have : (2 : Nat) ^ 1 ∣ 2 ^ (8 - j % 8) := Nat.pow_dvd_pow 2 (by omega)
    simpa using this)
theorem mod_succ (N j : Nat) : N % 2 ^ (j + 1) = N % 2 ^ j + 2 ^ j * (N / 2 ^ j % 2) := by rw [Nat.pow_succ, Nat.mod_mul]
theorem bit_big {N j m : Nat} (h : N / 2 ^ j % 2 = 1) (hm : m ≤ j) : ¬ N < 2 ^ m := by
  intro hlt
  have h1 : N < 2 ^ j := Nat.lt_of_lt_of_le hlt (Nat.pow_le_pow_right (by decide) hm)
  rw [Nat.div_eq_of_lt h1] at h
  simp at h
theorem or_low {L b q k : Nat} (hL : L < 2 ^ q) (hb : b ≤ 1) (hq : q < k) (hk : k ≤ 64) : bits .or .u64 (L : Int) (IntKind.u64.wrap ((b : Int) * 2 ^ q)) = ((L + b * 2 ^ q : Nat) : Int) ∧ L + b * 2 ^ q < 2 ^ k := by
  have hp : 2 ^ q + 2 ^ q ≤ 2 ^ k := by
    have : 2 ^ (q + 1) ≤ 2 ^ k := Nat.pow_le_pow_right (by decide) (by omega)
    rw [Nat.pow_succ] at this; omega
  have hp64 : 2 ^ k ≤ 2 ^ 64 := Nat.pow_le_pow_right (by decide) hk
  rw [show (2 : Nat) ^ 64 = 18446744073709551616 from by decide] at hp64
  have hbq : b * 2 ^ q ≤ 1 * 2 ^ q := Nat.mul_le_mul_right _ hb
  refine ⟨?_, by omega⟩
  have e : IntKind.u64.wrap ((b : Int) * 2 ^ q) = ((b * 2 ^ q : Nat) : Int) := by
    have e0 : ((b : Int) * 2 ^ q) = ((b * 2 ^ q : Nat) : Int) := by push_cast; rfl
    rw [e0, IntWalk.u64_in _ ⟨by omega, by omega⟩]
  rw [e, u64_or_nat L _ (by omega) (by omega), Nat.or_comm, nat_join q _ L (Nat.mul_mod_left _ _) hL, Nat.add_comm]
end Go.BP
namespace Go.Proofs.Ytjoohmifbkbpbaa
open Go.RowKit Go.VB Go.VarM Go.BP
theorem getbits_at (s : ByteArray) (a : Int) (at' k x : Nat) (w : World) (ha : a = at') (hx : num s / 2 ^ at' % 2 ^ k = x) (hs : s.size ≤ 100000) (hk : k ≤ 64) (hat : at' + k ≤ 8 * s.size) :
    Calls Try.prog 54 #[.string s, .int .i64 a, .int .i64 k] w (Ret (.int .u64 x) w) := by
  subst ha; subst hx; exact getbits_any s at' k w hs hk hat
theorem restzero_at (s : ByteArray) (u : Int) (used : Nat) (b : Bool) (w : World) (hu' : u = used) (hb : decide (num s < 2 ^ used) = b) (hu : used ≤ 1000000) (hs : s.size = (used + 7) / 8) :
    Calls Try.prog 53 #[.string s, .int .i64 u] w (Ret (.bool b) w) := by
  subst hu'; subst hb; exact restzero_any s used w hu hs
set_option maxRecDepth 100000 in
set_option maxHeartbeats 2000000 in
theorem bunpack_any (s : ByteArray) (n k : Int) (w : World) :
    Calls Try.prog 45 #[.string s, .int .i64 n, .int .i64 k] w (RetNE .u64 44 (unpackR s n k).1 (unpackR s n k).2 w) := by
  by_cases hn : 0 ≤ n ∧ n ≤ 4096
  · have h1 := fun w => iscount_any n w
    rw [decide_eq_true hn] at h1
    have HC := fun w => Lib.hid (h1 w); clear h1
    by_cases hk : 0 ≤ k ∧ k ≤ 64
    · have h1 := fun w => iswidth_any k w
      rw [decide_eq_true hk] at h1
      have HK := fun w => Lib.hid (h1 w); clear h1
      obtain ⟨n, rfl⟩ := Int.eq_ofNat_of_zero_le hn.1
      obtain ⟨k, rfl⟩ := Int.eq_ofNat_of_zero_le hk.1
      have hn' : n ≤ 4096 := by omega
      have hk' : k ≤ 64 := by omega
      clear hn hk
      have h1 := fun w => bneed_any (n : Nat) (k : Nat) w
      rw [needN_in hn' hk'] at h1
      have HN := fun w => Lib.hid (h1 w); clear h1
      have hm := need_le hn' hk'
      have hnk : n * k ≤ 4096 * 64 := Nat.mul_le_mul hn' hk'
      have hnk1 : (n : Int) * (k : Int) ≤ 262144 := by rw [← Int.natCast_mul]; omega
      have hnk2 : 0 ≤ (n : Int) * (k : Int) := by rw [← Int.natCast_mul]; omega
      generalize hM : (n * k + 7) / 8 = m at HN hm
      have HM := Lib.hid hM; clear hM
      by_cases hlo : s.size < m
      · rw [unpackR_short hn' hk' (by rw [HM.out]; exact hlo)]
        go_enter Try.func45, Try.ntmps45
        go_wp2_with (first
          | (go_at_call 49; refine (HC _).out.mono ?_; rintro e w' ⟨rfl, rfl⟩)
          | (go_at_call 48; refine (HK _).out.mono ?_; rintro e w' ⟨rfl, rfl⟩)
          | (go_at_call 44; refine (HN _).out.mono ?_; rintro e w' ⟨rfl, rfl⟩))
        go_ret2
        exact RetNE.mk rfl (OwnN.nil _ _ _ _) (Below.refl _ _)
      · by_cases hhi : m < s.size
        · rw [unpackR_long hn' hk' (by rw [HM.out]; exact hhi)]
          go_enter Try.func45, Try.ntmps45
          go_wp2_with (first
            | (go_at_call 49; refine (HC _).out.mono ?_; rintro e w' ⟨rfl, rfl⟩)
            | (go_at_call 48; refine (HK _).out.mono ?_; rintro e w' ⟨rfl, rfl⟩)
            | (go_at_call 44; refine (HN _).out.mono ?_; rintro e w' ⟨rfl, rfl⟩))
          go_ret2
          exact RetNE.mk rfl (OwnN.nil _ _ _ _) (Below.refl _ _)
        · have hsz : s.size = (n * k + 7) / 8 := by rw [HM.out]; omega
          have hrz := fun b w => restzero_at s ((n : Int) * (k : Int)) (n * k) b w (by push_cast; rfl)
          by_cases hr : num s < 2 ^ (n * k)
          · have h1 := fun w => hrz true w (decide_eq_true hr) (by omega) hsz
            have HZ := fun w => Lib.hid (h1 w); clear h1 hrz
            rw [unpackR_ok hn' hk' hsz hr]
            have HSZ := Lib.hid hsz; clear hsz
            have hmk := run_makeN (P := Try.prog) Try.underlying46 Try.infoU64 n (by omega) (by unfold maxLen; omega)
            have hrow := RowN.made .u64 44 w w.heap.size n (Nat.le_refl _) (by unfold maxLen; omega)
            have hb0 : Below w.heap.size w (w.alloc (.cells (madeCells #[.int .u64 0] n) 44)) := (Below.refl _ _).alloc (Nat.le_refl _) _
            generalize hW : (w.alloc (.cells (madeCells #[.int .u64 0] n) 44)) = W1 at hrow hb0
            have hmk1 := hmk w
            rw [hW] at hmk1
            clear hmk hW
            go_enter Try.func45, Try.ntmps45
            go_wp2_with (first
              | (go_at_call 49; refine (HC _).out.mono ?_; rintro e w' ⟨rfl, rfl⟩)
              | (go_at_call 48; refine (HK _).out.mono ?_; rintro e w' ⟨rfl, rfl⟩)
              | (go_at_call 44; refine (HN _).out.mono ?_; rintro e w' ⟨rfl, rfl⟩)
              | (go_at_call 53; refine (HZ _).out.mono ?_; rintro e w' ⟨rfl, rfl⟩))
            clear hmk1
            go_loopw [42] (fun i wr => ∃ (j : Nat) (ls : List Nat), i = .int .i64 j ∧ j ≤ n ∧ RowN .u64 44 wr w.heap.size w.heap.size n ls ∧ ls.length = n ∧ ls = digs k j (num s) ++ List.replicate (n - j) 0 ∧ Below w.heap.size w wr)
              (fun i _ => n - (intOf i).toNat)
            case atStart => exact ⟨0, _, rfl, Nat.zero_le _, hrow, by simp, by simp [digs], hb0⟩
            case round =>
              obtain ⟨j, ls, rfl, hj, hrw, hlen, hls, hbel⟩ := hrel
              have HL := Lib.hid hlen; have HLS := Lib.hid hls; clear hlen hls
              by_cases hlt : j < n
              · have hjk : j * k ≤ 4096 * 64 := Nat.mul_le_mul (by omega) hk'
                have hjk1 : (j : Int) * (k : Int) ≤ 262144 := by rw [← Int.natCast_mul]; omega
                have hjk2 : 0 ≤ (j : Int) * (k : Int) := by rw [← Int.natCast_mul]; omega
                have htop : j * k + k ≤ 8 * s.size := by
                  have h1 : (j + 1) * k ≤ n * k := Nat.mul_le_mul_right _ hlt
                  rw [Nat.add_mul, Nat.one_mul] at h1
                  rw [HSZ.out]; omega
                have hset := digs_set (k := k) (N := num s) hlt
                have hgb := fun w => getbits_at s ((j : Int) * (k : Int)) (k * j) k (num s / 2 ^ (k * j) % 2 ^ k) w (by rw [Nat.mul_comm]; push_cast; rfl) rfl (by omega) hk' (by rw [Nat.mul_comm k]; exact htop)
                generalize num s / 2 ^ (k * j) % 2 ^ k = x at hset hgb
                have HSET := Lib.hid hset; have HGB := fun w => Lib.hid (hgb w); clear hset hgb
                have hc := hrw.cell j (by rw [HL.out]; exact hlt)
                have hf := hrw.frozen j
                have hst := hrw.store j x
                go_wp2_with (go_at_call 54; refine (HGB _).out.mono ?_; rintro e w' ⟨rfl, rfl⟩)
                clear hc hf
                go_roundw
                case rel => exact ⟨j + 1, _, by go_num, hlt, hst, by rw [List.length_set]; exact HL.out, by rw [HLS.out]; exact HSET.out, hbel.setCell (Nat.le_refl _) _⟩
                case measure => simp [intOf] <;> omega
              · have hjn : j = n := by omega
                have hfin : ls = digs k n (num s) := by rw [HLS.out, hjn, Nat.sub_self, List.replicate_zero, List.append_nil]
                have HF := Lib.hid hfin; clear hjn hfin
                go_wp2
                go_ret2
                exact RetNE.mk rfl (hrw.own_at HL.out HF.out) hbel
          · have h1 := fun w => hrz false w (decide_eq_false hr) (by omega) hsz
            have HZ := fun w => Lib.hid (h1 w); clear h1 hrz
            rw [unpackR_rest hn' hk' hsz hr]
            clear hsz
            go_enter Try.func45, Try.ntmps45
            go_wp2_with (first
              | (go_at_call 49; refine (HC _).out.mono ?_; rintro e w' ⟨rfl, rfl⟩)
              | (go_at_call 48; refine (HK _).out.mono ?_; rintro e w' ⟨rfl, rfl⟩)
              | (go_at_call 44; refine (HN _).out.mono ?_; rintro e w' ⟨rfl, rfl⟩)
              | (go_at_call 53; refine (HZ _).out.mono ?_; rintro e w' ⟨rfl, rfl⟩))
            go_ret2
            exact RetNE.mk rfl (OwnN.nil _ _ _ _) (Below.refl _ _)
    · have h1 := fun w => iswidth_any k w
      rw [decide_eq_false hk] at h1
      have HK := fun w => Lib.hid (h1 w); clear h1
      rw [unpackR_range (by omega)]
      go_enter Try.func45, Try.ntmps45
      go_wp2_with (first
        | (go_at_call 49; refine (HC _).out.mono ?_; rintro e w' ⟨rfl, rfl⟩)
        | (go_at_call 48; refine (HK _).out.mono ?_; rintro e w' ⟨rfl, rfl⟩))
      go_ret2
      exact RetNE.mk rfl (OwnN.nil _ _ _ _) (Below.refl _ _)
  · have h1 := fun w => iscount_any n w
    rw [decide_eq_false hn] at h1
    have HC := fun w => Lib.hid (h1 w); clear h1
    rw [unpackR_range (by omega)]
    go_enter Try.func45, Try.ntmps45
    go_wp2_with (first
      | (go_at_call 49; refine (HC _).out.mono ?_; rintro e w' ⟨rfl, rfl⟩))
    go_ret2
    exact RetNE.mk rfl (OwnN.nil _ _ _ _) (Below.refl _ _)
end Go.Proofs.Ytjoohmifbkbpbaa
