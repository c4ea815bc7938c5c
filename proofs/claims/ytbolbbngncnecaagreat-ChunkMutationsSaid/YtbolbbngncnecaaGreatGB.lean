/- Several texts in one: BitW6 BitW7. -/
import Derived.Test.YtbolbbngncnecaaGreatG2
import Derived.StillTailTactics
import Derived.Test.YtbolbbngncnecaaGreatG0
/- The walks over Unpack of the reference, over Same, and over the lists of numbers of the statements. -/
namespace Go.Proofs.YtbolbbngncnecaaGreat
open Go.RowKit Go.VB Go.VarM Go.BP
theorem meas_up {a b : Nat} (h : a < b) : b - (intOf (.int .i64 ((a : Int) + 1))).toNat < b - (intOf (.int .i64 (a : Int))).toNat := by simp only [intOf]; omega
theorem wrap64_nat {q : Nat} (h : q ≤ 1000000) : wrap64 (q : Int) = q := by unfold wrap64; omega
theorem wrapi_nat {q : Nat} (h : q ≤ 1000000) : IntKind.i64.wrap (q : Int) = q := IntWalk.i64_in _ ⟨by omega, by omega⟩
theorem wrapu_nat {q : Nat} (h : q ≤ 1000000) : IntKind.u64.wrap (q : Int) = q := IntWalk.u64_in _ ⟨by omega, by omega⟩
set_option maxRecDepth 100000 in
set_option maxHeartbeats 2000000 in
theorem runpack_any (s : ByteArray) (n k : Int) (w : World) :
    Calls Tryz.prog 118 #[.string s, .int .i64 n, .int .i64 k] w (RetNE .u64 47 (unpackR s n k).1 (unpackR s n k).2 w) := by
  by_cases hn0 : n < 0
  · rw [unpackR_range (by omega)]
    go_enter Tryz.func118, Tryz.ntmps118
    go_wp2
    go_ret2
    exact RetNE.mk rfl (OwnN.nil _ _ _ _) (Below.refl _ _)
  by_cases hn1 : 4096 < n
  · rw [unpackR_range (by omega)]
    go_enter Tryz.func118, Tryz.ntmps118
    go_wp2
    go_ret2
    exact RetNE.mk rfl (OwnN.nil _ _ _ _) (Below.refl _ _)
  by_cases hk0 : k < 0
  · rw [unpackR_range (by omega)]
    go_enter Tryz.func118, Tryz.ntmps118
    go_wp2
    go_ret2
    exact RetNE.mk rfl (OwnN.nil _ _ _ _) (Below.refl _ _)
  by_cases hk1 : 64 < k
  · rw [unpackR_range (by omega)]
    go_enter Tryz.func118, Tryz.ntmps118
    go_wp2
    go_ret2
    exact RetNE.mk rfl (OwnN.nil _ _ _ _) (Below.refl _ _)
  obtain ⟨n, rfl⟩ := Int.eq_ofNat_of_zero_le (show 0 ≤ n by omega)
  obtain ⟨k, rfl⟩ := Int.eq_ofNat_of_zero_le (show 0 ≤ k by omega)
  have hn' : n ≤ 4096 := by omega
  have hk' : k ≤ 64 := by omega
  clear hn0 hn1 hk0 hk1
  have h1 := fun w => rneed_any (n : Nat) (k : Nat) w
  rw [needN_in hn' hk'] at h1
  have HN := fun w => Lib.hid (h1 w); clear h1
  have hm := need_le hn' hk'
  have hnk : n * k ≤ 4096 * 64 := Nat.mul_le_mul hn' hk'
  have hnk1 : (n : Int) * (k : Int) ≤ 262144 := by rw [← Int.natCast_mul]; omega
  have hnk2 : 0 ≤ (n : Int) * (k : Int) := by rw [← Int.natCast_mul]; omega
  generalize hM : (n * k + 7) / 8 = m at HN hm
  have HM := Lib.hid hM; clear hM
  by_cases hlo : s.size < m
  · rw [unpackR_short hn' hk' (by rw [HM.out]; exact hlo)]
    go_enter Tryz.func118, Tryz.ntmps118
    go_wp2_with (go_at_call 91; refine (HN _).out.mono ?_; rintro e w' ⟨rfl, rfl⟩)
    go_ret2
    exact RetNE.mk rfl (OwnN.nil _ _ _ _) (Below.refl _ _)
  by_cases hhi : m < s.size
  · rw [unpackR_long hn' hk' (by rw [HM.out]; exact hhi)]
    go_enter Tryz.func118, Tryz.ntmps118
    go_wp2_with (go_at_call 91; refine (HN _).out.mono ?_; rintro e w' ⟨rfl, rfl⟩)
    go_ret2
    exact RetNE.mk rfl (OwnN.nil _ _ _ _) (Below.refl _ _)
  have hsz : s.size = (n * k + 7) / 8 := by rw [HM.out]; omega
  have HSZ := Lib.hid hsz
  have hbits : n * k ≤ 8 * s.size := by rw [hsz]; omega
  clear hsz
  have hb := get_bN s
  have hmk := run_makeN (P := Tryz.prog) Tryz.underlying94 Tryz.infoU64 n (by omega) (by unfold maxLen; omega)
  have hrow := RowN.made .u64 47 w w.heap.size n (Nat.le_refl _) (by unfold maxLen; omega)
  have hb0 : Below w.heap.size w (w.alloc (.cells (madeCells #[.int .u64 0] n) 47)) := (Below.refl _ _).alloc (Nat.le_refl _) _
  generalize hW : (w.alloc (.cells (madeCells #[.int .u64 0] n) 47)) = W1 at hrow hb0
  have hmk1 := hmk w
  rw [hW] at hmk1
  clear hmk hW
  go_enter Tryz.func118, Tryz.ntmps118
  go_wp2_with (go_at_call 91; refine (HN _).out.mono ?_; rintro e w' ⟨rfl, rfl⟩)
  clear hmk1
  go_loopw [9] (fun i wr => ∃ (j : Nat) (ls : List Nat), i = .int .i64 j ∧ j ≤ 8 * s.size ∧ RowN .u64 47 wr w.heap.size w.heap.size n ls ∧ ls.length = n ∧ (∀ x ∈ ls, x < 2 ^ k) ∧
    big k ls = num s % 2 ^ (min j (n * k)) ∧ num s % 2 ^ j < 2 ^ (n * k) ∧ Below w.heap.size w wr) (fun i _ => 8 * s.size - (intOf i).toNat)
  case atStart => exact ⟨0, _, rfl, Nat.zero_le _, hrow, by simp, zeros_lt k n, by rw [big_zeros]; simp [Nat.mod_one], by simp [Nat.mod_one, Nat.two_pow_pos], hb0⟩
  case round =>
    obtain ⟨j, ls, rfl, hj, hrw, hlen, hls, hbig, hlow, hbel⟩ := hrel
    have HL := Lib.hid hlen; have HG := Lib.hid hbig; clear hlen hbig
    by_cases hlt : j < 8 * s.size
    · have hbl := bN_lt s (j / 8)
      have hbb := bit_of_byte s j
      have hba := bit_and (V := bN s (j / 8)) (t := j % 8) (Nat.lt_trans hbl (by decide))
      rw [hbb] at hba
      have hms := mod_succ (num s) j
      have hb2 : num s / 2 ^ j % 2 < 2 := Nat.mod_lt _ (by decide)
      generalize hbit : num s / 2 ^ j % 2 = b at hba hms hb2
      have HBIT := Lib.hid hbit; have HMS := Lib.hid hms; clear hbb hbit hms
      by_cases hge : n * k ≤ j
      · have hge' : (n : Int) * (k : Int) ≤ j := by rw [← Int.natCast_mul]; omega
        by_cases hb1 : b = 1
        · subst hb1
          have hno := bit_big HBIT.out hge
          have hR := unpackR_rest hn' hk' HSZ.out hno
          have HRR := Lib.hid hR; clear hR hno
          go_wp2
          go_ret2
          rw [HRR.out]
          exact RetNE.mk rfl (OwnN.nil _ _ _ _) hbel
        · have hb0' : b = 0 := by omega
          subst hb0'
          go_wp2
          go_roundw
          case rel =>
            refine ⟨j + 1, ls, by go_num, hlt, hrw, HL.out, hls, ?_, ?_, hbel⟩
            · rw [HG.out, Nat.min_eq_right hge, Nat.min_eq_right (by omega)]
            · rw [HMS.out]; simpa using hlow
          case measure => simp [intOf] <;> omega
      · have hge' : (j : Int) < (n : Int) * (k : Int) := by rw [← Int.natCast_mul]; omega
        have hjn : j ≤ n * k := Nat.le_of_lt (Nat.lt_of_not_le hge)
        have hj1 : j + 1 ≤ n * k := Nat.lt_of_not_le hge
        have hkpos : 0 < k := by
          rcases Nat.eq_zero_or_pos k with h0 | h0
          · subst h0; simp at hge
          · exact h0
        have hin : j / k < n := by rw [Nat.div_lt_iff_lt_mul hkpos]; omega
        have hmodk : j % k < k := Nat.mod_lt _ hkpos
        have hjq : k * (j / k) + j % k = j := Nat.div_add_mod _ _
        have hkne : ¬ (k = 0) := Nat.ne_of_gt hkpos
        have hr6 : j % k ≤ 1000000 := Nat.le_trans (Nat.le_of_lt hmodk) (Nat.le_trans hk' (by decide))
        have hq6 : j / k ≤ 1000000 := Nat.le_trans (Nat.le_of_lt hin) (Nat.le_trans hn' (by decide))
        have hr5 : min (j % k) 64 = j % k := Nat.min_eq_left (Nat.le_trans (Nat.le_of_lt hmodk) hk')
        have hb1 : b ≤ 1 := Nat.le_of_lt_succ hb2
        have hwq : (j : Int) / (k : Int) = ((j / k : Nat) : Int) := by push_cast; rfl
        have hwr : (j : Int) % (k : Int) = ((j % k : Nat) : Int) := by push_cast; rfl
        generalize j / k = q at *
        generalize j % k = r at *
        have hq3 : wrap64 ((j : Int) / (k : Int)) = (q : Int) := by rw [hwq]; exact wrap64_nat hq6
        have hr3 : wrap64 ((j : Int) % (k : Int)) = (r : Int) := by rw [hwr]; exact wrap64_nat hr6
        have hr4 : IntKind.u64.wrap ((j : Int) % (k : Int)) = (r : Int) := by rw [hwr]; exact wrapu_nat hr6
        have hq7 : IntKind.i64.wrap ((j : Int) / (k : Int)) = (q : Int) := by rw [hwq]; exact wrapi_nat hq6
        have hr7 : IntKind.i64.wrap ((j : Int) % (k : Int)) = (r : Int) := by rw [hwr]; exact wrapi_nat hr6
        have hq8 : IntKind.i64.wrap ((j : Int).tdiv (k : Int)) = (q : Int) := by rw [Int.tdiv_eq_ediv_of_nonneg (Int.natCast_nonneg _)]; exact hq7
        have hr8 : IntKind.i64.wrap ((j : Int).tmod (k : Int)) = (r : Int) := by rw [Int.tmod_eq_emod_of_nonneg (Int.natCast_nonneg _)]; exact hr7
        clear hr6 hq6
        clear hwq hwr
        have hLl : ls.getD q 0 < 2 ^ r := digit_lt hls (by rw [hjq, HG.out, Nat.min_eq_left hjn]; exact Nat.mod_lt _ (Nat.two_pow_pos _))
        have hc := hrw.cell q (by rw [HL.out]; exact hin)
        have hf := hrw.frozen q
        have hset := big_set (w := k) (l := ls) (i := q) (by rw [HL.out]; exact hin) (b * 2 ^ r)
        have hpow : b * 2 ^ r * 2 ^ (k * q) = 2 ^ j * b := by rw [Nat.mul_assoc, ← Nat.pow_add, Nat.add_comm, hjq, Nat.mul_comm]
        obtain ⟨hor, hfit⟩ := or_low (b := b) hLl hb1 hmodk hk'
        have hst := hrw.store q (ls.getD q 0 + b * 2 ^ r)
        rw [← hor] at hst
        generalize ls.getD q 0 = L at *
        have HSE := Lib.hid hset; have HPO := Lib.hid hpow; have HOR := Lib.hid hor; have HJQ := Lib.hid hjq; clear hset hpow hor hjq
        go_wp2_with fail
        go_still_tail 14, (by kernel_rfl)
        change wpList _ _ _ _ _ wr.drew
        go_wp2_with fail
        clear hc hf hq3 hr3 hr4 hr5 hq7 hq8 hr7 hr8
        go_roundw
        case rel =>
          refine ⟨j + 1, ls.set q (L + b * 2 ^ r), by go_num, hlt, hst.drew, by rw [List.length_set]; exact HL.out, set_lt hls hfit, ?_, ?_, (hbel.setCell (Nat.le_refl _) _).drew⟩
          · rw [HSE.out, HPO.out, HG.out, Nat.min_eq_left hjn, Nat.min_eq_left hj1, HMS.out]
          · exact Nat.lt_of_lt_of_le (Nat.mod_lt _ (Nat.two_pow_pos _)) (Nat.pow_le_pow_right (by decide) hj1)
        case measure => exact meas_up hlt
    · have hj8 : j = 8 * s.size := by omega
      have hmin : min j (n * k) = n * k := by omega
      have hN : num s % 2 ^ j = num s := by rw [hj8]; exact Nat.mod_eq_of_lt (num_lt s)
      rw [hN] at hlow
      have hfin : ls = digs k n (num s) := digs_of hls HL.out (by rw [HG.out, hmin]; exact Nat.mod_eq_of_lt hlow)
      have hR := unpackR_ok hn' hk' HSZ.out hlow
      have HF := Lib.hid hfin; have HRR := Lib.hid hR
      clear hj8 hmin hN hfin hR
      go_wp2
      go_ret2
      rw [HRR.out]
      exact RetNE.mk rfl (hrw.own_at HL.out HF.out) hbel
end Go.Proofs.YtbolbbngncnecaaGreat

/- The lists of numbers of the statements of layer 2, and what each of them asks first. -/
namespace Go.Proofs.YtbolbbngncnecaaGreat
open Go.RowKit Go.VB Go.VarM Go.BP
theorem bpack_eq (vl : Value) (l : List Nat) (k : Int) (B : Nat) (w : World) (hr : RdN .u64 w B vl l) (hB : B ≤ w.heap.size) (hl : ∀ x ∈ l, x < 2 ^ 64) {s : ByteArray} {c : Nat} (h : packR l k = (s, c)) :
    Calls Tryz.prog 120 #[vl, .int .i64 k] w (RetSE s c w) := by
  have := bpack_any vl l k B w hr hB hl
  rw [h] at this; exact this
theorem rpack_eq (vl : Value) (l : List Nat) (k : Int) (B : Nat) (w : World) (hr : RdN .u64 w B vl l) (hB : B ≤ w.heap.size) (hl : ∀ x ∈ l, x < 2 ^ 64) {s : ByteArray} {c : Nat} (h : packR l k = (s, c)) :
    Calls Tryz.prog 60 #[vl, .int .i64 k] w (RetSE s c w) := by
  have := rpack_any vl l k B w hr hB hl
  rw [h] at this; exact this
theorem bunpack_eq (s : ByteArray) (n k : Int) (w : World) {l : List Nat} {c : Nat} (h : unpackR s n k = (l, c)) :
    Calls Tryz.prog 110 #[.string s, .int .i64 n, .int .i64 k] w (RetNE .u64 47 l c w) := by
  have := bunpack_any s n k w
  rw [h] at this; exact this
theorem runpack_eq (s : ByteArray) (n k : Int) (w : World) {l : List Nat} {c : Nat} (h : unpackR s n k = (l, c)) :
    Calls Tryz.prog 118 #[.string s, .int .i64 n, .int .i64 k] w (RetNE .u64 47 l c w) := by
  have := runpack_any s n k w
  rw [h] at this; exact this
theorem bwidth_int (x : Int) (w : World) (h0 : 0 ≤ x) (h1 : x ≤ 18446744073709551615) : Calls Tryz.prog 122 #[.int .u64 x] w (Ret (.int .i64 (wid x.toNat : Nat)) w) := by
  obtain ⟨n, rfl⟩ := Int.eq_ofNat_of_zero_le h0
  exact bwidth_any n w (by omega)
theorem rwidth_int (x : Int) (w : World) (h0 : 0 ≤ x) (h1 : x ≤ 18446744073709551615) : Calls Tryz.prog 61 #[.int .u64 x] w (Ret (.int .i64 (wid x.toNat : Nat)) w) := by
  obtain ⟨n, rfl⟩ := Int.eq_ofNat_of_zero_le h0
  exact rwidth_any n w (by omega)
end Go.Proofs.YtbolbbngncnecaaGreat
