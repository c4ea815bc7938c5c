/- The walk over Pack of the reference of package bitpack. -/
import Derived.Test.YtjoohmifbkbpbaaBitW3
namespace Go.Proofs.Ytjoohmifbkbpbaa
open Go.RowKit Go.VB Go.VarM Go.BP

theorem bit_and {V t : Nat} (hV : V < 2 ^ 64) : bits .and .u64 ((V : Int) / 2 ^ t) 1 = ((V / 2 ^ t % 2 : Nat) : Int) := by
  rw [show (2 : Nat) ^ 64 = 18446744073709551616 from by decide] at hV
  have h1 : V / 2 ^ t ≤ V := Nat.div_le_self _ _
  have e : ((V : Int) / 2 ^ t) = ((V / 2 ^ t : Nat) : Int) := by push_cast; rfl
  rw [e]
  have := u64_and_nat (V / 2 ^ t) 1 (by omega) (by omega)
  rw [Nat.and_one_is_mod] at this
  exact this
theorem or_bit {B q : Nat} (hq : q < 8) (hB : B < 2 ^ q) : bits .or .u8 (B : Int) (IntKind.u8.wrap (2 ^ q)) = ((B + 2 ^ q : Nat) : Int) ∧ B + 2 ^ q < 2 ^ 8 := by
  have hp : 2 ^ q + 2 ^ q ≤ 2 ^ 8 := by
    have : 2 ^ (q + 1) ≤ 2 ^ 8 := Nat.pow_le_pow_right (by decide) (by omega)
    rw [Nat.pow_succ] at this; omega
  rw [show (2 : Nat) ^ 8 = 256 from by decide] at hp ⊢
  refine ⟨?_, by omega⟩
  have e : IntKind.u8.wrap (2 ^ q) = ((2 ^ q : Nat) : Int) := by
    have e0 : ((2 : Int) ^ q) = ((2 ^ q : Nat) : Int) := by push_cast; rfl
    have := Nat.two_pow_pos q
    rw [e0, IntWalk.u8_in _ ⟨by omega, by omega⟩]
  rw [e, u8_or_nat B _ (by omega) (by omega), Nat.or_comm, nat_join q (2 ^ q) B (Nat.mod_self _) hB, Nat.add_comm]

set_option maxRecDepth 100000 in
set_option maxHeartbeats 2000000 in
theorem rpack_any (vl : Value) (l : List Nat) (k : Int) (B : Nat) (w : World) (hr : RdN .u64 w B vl l) (hB : B ≤ w.heap.size) (hl : ∀ x ∈ l, x < 2 ^ 64) :
    Calls Try.prog 27 #[vl, .int .i64 k] w (RetSE (packR l k).1 (packR l k).2 w) := by
  obtain ⟨A, c, rfl, hc1, hc2, hr'⟩ := hr
  have hr : RdN .u64 w B (.slice A l.length c) l := ⟨A, c, rfl, hc1, hc2, hr'⟩
  clear hr'
  unfold maxLen at hc2
  have HR := Lib.hid hr; clear hr
  by_cases hk0 : k < 0
  · rw [packR_range (by omega)]
    go_enter Try.func27, Try.ntmps27
    go_wp2
    go_ret2
    exact RetB.mk rfl (Below.refl _ _)
  by_cases hk1 : 64 < k
  · rw [packR_range (by omega)]
    go_enter Try.func27, Try.ntmps27
    go_wp2
    go_ret2
    exact RetB.mk rfl (Below.refl _ _)
  obtain ⟨k, rfl⟩ := Int.eq_ofNat_of_zero_le (show 0 ≤ k by omega)
  have hk64 : k ≤ 64 := by omega
  clear hk0 hk1
  by_cases hn : l.length ≤ 4096
  · have h1 := fun w => rneed_any (l.length : Nat) (k : Nat) w
    rw [needN_in hn hk64] at h1
    have HN := fun w => Lib.hid (h1 w); clear h1
    have hm := need_le hn hk64
    generalize hM : (l.length * k + 7) / 8 = m at HN hm
    have HM := Lib.hid hM; clear hM
    have hmk := run_makeN (P := Try.prog) Try.underlying30 Try.infoB8 m (by omega) (by unfold maxLen; omega)
    have hrow := RowN.made .u8 5 w w.heap.size m (Nat.le_refl _) (by unfold maxLen; omega)
    have hb0 : Below w.heap.size w (w.alloc (.cells (madeCells #[.int .u8 0] m) 5)) := (Below.refl _ _).alloc (Nat.le_refl _) _
    generalize hW : (w.alloc (.cells (madeCells #[.int .u8 0] m) 5)) = W1 at hrow hb0
    have hmk1 := hmk w
    rw [hW] at hmk1
    clear hmk hW
    go_enter Try.func27, Try.ntmps27
    go_wp2_with (first
      | (go_at_call 37; refine (HN _).out.mono ?_; rintro e w' ⟨rfl, rfl⟩))
    clear hmk1
    go_loopw [27] (fun i wr => ∃ (j : Nat) (bs : List Nat), i = .int .i64 j ∧ j ≤ l.length ∧ (∀ x ∈ l.take j, x < 2 ^ k) ∧ RowN .u8 5 wr w.heap.size w.heap.size m bs ∧ bs.length = m ∧ (∀ x ∈ bs, x < 2 ^ 8) ∧
      big 8 bs = big k (l.take j) ∧ Below w.heap.size w wr) (fun i _ => l.length - (intOf i).toNat)
    case atStart => exact ⟨0, _, rfl, Nat.zero_le _, by simp, hrow, by simp, zeros_lt 8 m, by rw [big_zeros]; rfl, hb0⟩
    case round =>
      obtain ⟨j, bs, rfl, hj, hx, hrw, hlen, hbs, hbig, hbel⟩ := hrel
      have HX := Lib.hid hx; have HL := Lib.hid hlen; have HG := Lib.hid hbig; clear hx hlen hbig
      by_cases hlt : j < l.length
      · obtain ⟨A', c', hv', _, _, hcell⟩ := HR.out.below (hbel.mono hB)
        cases hv'
        obtain ⟨ad, rfl, had, hcj⟩ := hcell j hlt
        clear hcell
        have hV64 := hl _ (get_mem hlt)
        have hbt := big_take (w := k) hlt
        have htl := fun h => take_lt (w := k) hlt HX.out h
        have hmem := get_mem hlt
        have hlo := big_take_lt hj HX.out
        generalize l.getD j 0 = V at *
        have HBT := Lib.hid hbt; have HTL := Lib.hid htl; have HME := Lib.hid hmem; clear hbt htl hmem
        have hwi := wid_le k V
        have hw := fun w => rwidth_any V w (by simpa using hV64)
        have HW := fun w => Lib.hid (hw w); clear hw
        have hw64 := wid_64 (v := V) (by simpa using hV64)
        by_cases hV : V < 2 ^ k
        · have hwk := hwi.2 hV
          clear hwi
          have hjk : j * k ≤ 4096 * 64 := Nat.mul_le_mul (by omega) hk64
          have hjk1 : (j : Int) * (k : Int) ≤ 262144 := by rw [← Int.natCast_mul]; omega
          have hjk2 : 0 ≤ (j : Int) * (k : Int) := by rw [← Int.natCast_mul]; omega
          have htop : k * (j + 1) ≤ 8 * m := by
            have h1 : (j + 1) * k ≤ l.length * k := Nat.mul_le_mul_right _ hlt
            rw [Nat.mul_comm k, ← HM.out]; omega
          go_wp2_with (go_at_call 26; refine (HW _).out.mono ?_; rintro e w' ⟨rfl, rfl⟩)
          go_loopw [9] (fun q wq => ∃ (t : Nat) (cs : List Nat), q = .int .i64 t ∧ t ≤ k ∧ RowN .u8 5 wq w.heap.size w.heap.size m cs ∧ cs.length = m ∧ (∀ x ∈ cs, x < 2 ^ 8) ∧
            big 8 cs = big k (l.take j) + V % 2 ^ t * 2 ^ (k * j) ∧ Below w.heap.size w wq) (fun q _ => 64 - (intOf q).toNat)
          case atStart => exact ⟨0, bs, rfl, Nat.zero_le _, hrw, HL.out, hbs, by rw [HG.out]; simp [Nat.mod_one], hbel⟩
          case round =>
            obtain ⟨t, cs, rfl, ht, hrc, hlc, hcs, hbc, hbelq⟩ := hrel
            have HLC := Lib.hid hlc; have HBC := Lib.hid hbc; clear hlc hbc
            by_cases htk : t < k
            · have hba := bit_and (t := t) hV64
              have hin : (j * k + t) / 8 < cs.length := by
                rw [HLC.out]
                have h1 : j * k + t < 8 * m := by rw [Nat.mul_add, Nat.mul_one, Nat.mul_comm k] at htop; omega
                omega
              have hmod : V % 2 ^ (t + 1) = V % 2 ^ t + 2 ^ t * (V / 2 ^ t % 2) := by rw [Nat.pow_succ, Nat.mod_mul]
              have hat : k * j + t = 8 * ((j * k + t) / 8) + (j * k + t) % 8 := by rw [Nat.mul_comm k]; omega
              have hVt : V % 2 ^ t < 2 ^ t := Nat.mod_lt _ (Nat.two_pow_pos _)
              have hlow : big 8 cs < 2 ^ (8 * ((j * k + t) / 8) + (j * k + t) % 8) := by
                rw [HBC.out, ← hat, Nat.pow_add, Nat.mul_comm (2 ^ (k * j))]
                have : (V % 2 ^ t + 1) * 2 ^ (k * j) ≤ 2 ^ t * 2 ^ (k * j) := Nat.mul_le_mul_right _ hVt
                rw [Nat.add_mul] at this; omega
              have hc := hrc.cell _ hin
              have hf := hrc.frozen ((j * k + t) / 8)
              have hBl := digit_lt hcs hlow
              obtain ⟨hor, hfit⟩ := or_bit (Nat.mod_lt (j * k + t) (by decide)) hBl
              have hset := big_set (w := 8) hin (2 ^ ((j * k + t) % 8))
              have hpow : 2 ^ ((j * k + t) % 8) * 2 ^ (8 * ((j * k + t) / 8)) = 2 ^ t * 2 ^ (k * j) := by
                rw [← Nat.pow_add, ← Nat.pow_add, Nat.add_comm t, hat, Nat.add_comm]
              have hst := hrc.store ((j * k + t) / 8) (cs.getD ((j * k + t) / 8) 0 + 2 ^ ((j * k + t) % 8))
              rw [← hor] at hst
              have hin2 : (j * k + t) / 8 < m := by rw [← HLC.out]; exact hin
              have hin3 : ((j : Int) * k + t) / 8 < m := by rw [← Int.natCast_mul]; omega
              generalize cs.getD ((j * k + t) / 8) 0 = B0 at *
              have HMO := Lib.hid hmod; have HSE := Lib.hid hset; have HPO := Lib.hid hpow; have HOR := Lib.hid hor; have HAT := Lib.hid hat
              clear hmod hset hpow hor hat hlow hBl
              by_cases hb1 : V / 2 ^ t % 2 = 1
              · have hd : (bits .and .u64 ((V : Int) / 2 ^ t) 1 == 1) = true := by rw [hba, hb1]; rfl
                have HB1 := Lib.hid hb1; clear hba hb1
                go_wp2
                clear hd
                go_roundw
                case rel =>
                  refine ⟨t + 1, cs.set ((j * k + t) / 8) (B0 + 2 ^ ((j * k + t) % 8)), by go_num, htk, hst, by rw [List.length_set]; exact HLC.out, set_lt hcs hfit, ?_, hbelq.setCell (Nat.le_refl _) _⟩
                  rw [HSE.out, HBC.out, HPO.out, HMO.out, HB1.out, Nat.mul_one, Nat.add_mul, Nat.add_assoc]
                case measure => simp [intOf] <;> omega
              · have hb0 : V / 2 ^ t % 2 = 0 := by omega
                have hd : (bits .and .u64 ((V : Int) / 2 ^ t) 1 == 1) = false := by rw [hba, hb0]; rfl
                have HB1 := Lib.hid hb0; clear hba hb1 hb0
                go_wp2
                clear hd
                go_roundw
                case rel => exact ⟨t + 1, cs, by go_num, htk, hrc, HLC.out, hcs, by rw [HBC.out, HMO.out, HB1.out, Nat.mul_zero, Nat.add_zero], hbelq⟩
                case measure => simp [intOf] <;> omega
            · have htk' : t = k := by omega
              have hVk : V % 2 ^ t = V := by rw [htk']; exact Nat.mod_eq_of_lt hV
              have HVK := Lib.hid hVk; clear htk' hVk
              go_wp2
              go_roundw
              case rel => exact ⟨j + 1, cs, by go_num, hlt, HTL.out hV, hrc, HLC.out, hcs, by rw [HBT.out, HBC.out, HVK.out], hbelq⟩
              case measure => simp [intOf] <;> omega
        · have hwk : ¬ wid V ≤ k := fun h => hV (hwi.1 h)
          clear hwi
          go_wp2_with (go_at_call 26; refine (HW _).out.mono ?_; rintro e w' ⟨rfl, rfl⟩)
          go_ret2
          refine RetB.mk ?_ hbel
          rw [packR_over hk64 hn HME.out hV]; rfl
      · have hjl : j = l.length := by omega
        have hall : ∀ x ∈ l, x < 2 ^ k := fun x hm => HX.out x (by rw [hjl, List.take_length]; exact hm)
        have hbs2 : bs = digs 8 m (big k l) := digs_of hbs HL.out (by rw [HG.out, hjl, List.take_length])
        have HB2 := Lib.hid hbs2; clear hbs2
        have hcv := run_string_of_own (P := Try.prog) 30 9 5 Try.underlying30 Try.underlying5 Try.underlying9 (RowN.ownB hrw hbs)
        rw [HL.out] at hcv
        go_wp2
        go_ret2
        refine RetB.mk ?_ hbel
        rw [packR_ok hk64 hn hall]
        unfold packed
        rw [HM.out, ← HB2.out]; rfl
  · rw [packR_full hk64 (by omega)]
    go_enter Try.func27, Try.ntmps27
    go_wp2
    go_ret2
    exact RetB.mk rfl (Below.refl _ _)
end Go.Proofs.Ytjoohmifbkbpbaa
