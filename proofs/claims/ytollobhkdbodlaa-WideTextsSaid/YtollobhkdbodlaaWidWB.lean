/- The walk over the reference's text of a number. -/
import Derived.Test.YtollobhkdbodlaaWidW3
import Derived.Test.YtollobhkdbodlaaWidW5
import Derived.Test.YtollobhkdbodlaaWidW9
import Derived.RegionTactic
namespace Go.WD
open Go.VB Go.DT Go.DC Go.RowKit
/-- The digits cut off, bit by bit: what has been divided after i bits. -/
def vb (H L i : Nat) : Nat := H % 10 * 2 ^ i + L / 2 ^ (64 - i)
theorem vb_zero {H L : Nat} (h : L < 18446744073709551616) : vb H L 0 = H % 10 := by
  unfold vb
  rw [Nat.pow_zero, Nat.mul_one, show (64 : Nat) - 0 = 64 from rfl, Nat.div_eq_of_lt (by simpa using h), Nat.add_zero]
theorem vb_last {H L : Nat} : vb H L 64 = H % 10 * 18446744073709551616 + L := by
  unfold vb
  rw [Nat.sub_self, Nat.pow_zero, Nat.div_one]
theorem vb_succ (H L : Nat) {i : Nat} (hi : i < 64) : vb H L (i + 1) = 2 * vb H L i + L / 2 ^ (63 - i) % 2 := by
  unfold vb
  have e : (2 : Nat) ^ (64 - i) = 2 ^ (63 - i) * 2 := by rw [← Nat.pow_succ]; congr 1; omega
  rw [e, ← Nat.div_div_eq_div_mul, show 64 - (i + 1) = 63 - i from by omega, Nat.pow_succ]
  have h := Nat.div_add_mod (L / 2 ^ (63 - i)) 2
  rw [Nat.mul_add, ← h]
  generalize L / 2 ^ (63 - i) / 2 = a at *
  generalize H % 10 = b
  generalize 2 ^ i = c
  have : b * (c * 2) = 2 * (b * c) := by rw [← Nat.mul_assoc, Nat.mul_comm _ 2]
  rw [this]
  omega
/-- The quotient's bits so far. -/
def qb (H L i : Nat) : Nat := vb H L i / 10 * 2 ^ (64 - i)
theorem vb_lt {H L i : Nat} (hL : L < 18446744073709551616) (hi : i ≤ 64) : vb H L i < 10 * 2 ^ i := by
  have h1 : L / 2 ^ (64 - i) < 2 ^ i := by
    rw [Nat.div_lt_iff_lt_mul (Nat.two_pow_pos _), ← Nat.pow_add, show i + (64 - i) = 64 from by omega]
    exact hL
  have h2 : H % 10 * 2 ^ i ≤ 9 * 2 ^ i := Nat.mul_le_mul_right _ (by omega)
  unfold vb
  omega
theorem qb_lt {H L i : Nat} (hL : L < 18446744073709551616) (hi : i ≤ 64) : qb H L i < 18446744073709551616 := by
  have h1 := vb_lt (H := H) hL hi
  have h2 : vb H L i / 10 < 2 ^ i := by omega
  have h3 : vb H L i / 10 * 2 ^ (64 - i) < 2 ^ i * 2 ^ (64 - i) := Nat.mul_lt_mul_of_pos_right h2 (Nat.two_pow_pos _)
  rw [← Nat.pow_add, show i + (64 - i) = 64 from by omega] at h3
  exact h3
theorem or_bit {H L i : Nat} (hL : L < 18446744073709551616) (hi : i < 64) : bits .or .u64 ((qb H L i : Nat) : Int) (IntKind.u64.wrap (2 ^ (63 - i))) = ((qb H L i + 2 ^ (63 - i) : Nat) : Int) := by
  have hq := qb_lt (H := H) hL (Nat.le_of_lt hi)
  have hp : (2 : Nat) ^ (63 - i) < 2 ^ (64 - i) := Nat.pow_lt_pow_right (by decide) (by omega)
  have hp2 : (2 : Nat) ^ (63 - i) < 18446744073709551616 := Nat.lt_of_le_of_lt (Nat.pow_le_pow_right (by decide) (show 63 - i ≤ 63 by omega)) (by decide)
  have hw : IntKind.u64.wrap (2 ^ (63 - i)) = ((2 ^ (63 - i) : Nat) : Int) := by
    rw [IntKind.wrap_u64, show (2 : Int) ^ (63 - i) = ((2 ^ (63 - i) : Nat) : Int) from by rw [Int.natCast_pow]; rfl]
    exact Int.emod_eq_of_lt (Int.natCast_nonneg _) (show ((2 ^ (63 - i) : Nat) : Int) < ((18446744073709551616 : Nat) : Int) from Int.ofNat_lt.2 hp2)
  rw [hw, u64_or_nat _ _ hq hp2]
  congr 1
  refine nat_join (64 - i) _ _ ?_ hp
  unfold qb
  exact Nat.mul_mod_left _ _
theorem and_bit {L i : Nat} (hL : L < 18446744073709551616) : bits .and .u64 ((L : Int) / 2 ^ (63 - i)) 1 = ((L / 2 ^ (63 - i) % 2 : Nat) : Int) := by
  have h := u64_and_nat (L / 2 ^ (63 - i)) 1 (Nat.lt_of_le_of_lt (Nat.div_le_self _ _) hL) (by decide)
  rw [Nat.and_one_is_mod] at h
  rw [show ((L / 2 ^ (63 - i) : Nat) : Int) = (L : Int) / 2 ^ (63 - i) from by rw [Int.natCast_ediv, Int.natCast_pow]; rfl] at h
  exact h
theorem bit_step {H L i r b q : Nat} (hi : i < 64) (hb : L / 2 ^ (63 - i) % 2 = b) (hr : vb H L i % 10 = r) (hq : qb H L i = q) :
    (2 * r + b < 10 → vb H L (i + 1) % 10 = 2 * r + b ∧ qb H L (i + 1) = q) ∧ (10 ≤ 2 * r + b → vb H L (i + 1) % 10 = 2 * r + b - 10 ∧ qb H L (i + 1) = q + 2 ^ (63 - i)) := by
  have hs := vb_succ H L hi
  rw [hb] at hs
  have e : (2 : Nat) ^ (64 - i) = 2 * 2 ^ (63 - i) := by rw [← Nat.pow_succ']; congr 1; omega
  unfold qb at hq ⊢
  rw [e] at hq
  rw [hs, show 64 - (i + 1) = 63 - i from by omega]
  generalize vb H L i = V at *
  generalize 2 ^ (63 - i) = p at *
  have hb2 : b < 2 := by omega
  refine ⟨fun h => ⟨by omega, ?_⟩, fun h => ⟨by omega, ?_⟩⟩
  · rw [← hq, show (2 * V + b) / 10 = V / 10 * 2 from by omega, Nat.mul_assoc]
  · rw [← hq, show (2 * V + b) / 10 = V / 10 * 2 + 1 from by omega, Nat.add_mul, Nat.mul_assoc, Nat.one_mul]
theorem bit_end {u H L : Nat} (hH : u / 18446744073709551616 = H) (hL : u % 18446744073709551616 = L) : u / 10 / 18446744073709551616 = H / 10 ∧ u / 10 % 18446744073709551616 = qb H L 64 ∧ u % 10 = vb H L 64 % 10 := by
  unfold qb
  rw [vb_last, Nat.sub_self, Nat.pow_zero, Nat.mul_one]
  omega
theorem digit_text {R : Nat} (h : R < 10) : (⟨#[48, 49, 50, 51, 52, 53, 54, 55, 56, 57]⟩ : ByteArray).extract R (R + 1) = str [UInt8.ofNat (48 + R)] := by
  have : R = 0 ∨ R = 1 ∨ R = 2 ∨ R = 3 ∨ R = 4 ∨ R = 5 ∨ R = 6 ∨ R = 7 ∨ R = 8 ∨ R = 9 := by omega
  rcases this with rfl | rfl | rfl | rfl | rfl | rfl | rfl | rfl | rfl | rfl <;> decide
theorem cast_hi (m j : Nat) : ((m / 10 ^ j / 18446744073709551616 : Nat) : Int) = (m : Int) / 10 ^ j / 18446744073709551616 := by
  rw [Int.natCast_ediv, Int.natCast_ediv, Int.natCast_pow]; rfl
theorem cast_lo (m j : Nat) : ((m / 10 ^ j % 18446744073709551616 : Nat) : Int) = (m : Int) / 10 ^ j % 18446744073709551616 := by
  rw [Int.natCast_emod, Int.natCast_ediv, Int.natCast_pow]; rfl
theorem cut10 {P : Program} {t : TypeId} (h : P.underlying t = some .string) {R : Nat} (hR : R < 10) (w : World) :
    (Instr.slice t (.string ⟨#[48, 49, 50, 51, 52, 53, 54, 55, 56, 57]⟩) (some (.int .u64 (R : Int))) (some (.int .u64 ((R : Int) + 1))) none).run P w = .ok (.string ((⟨#[48, 49, 50, 51, 52, 53, 54, 55, 56, 57]⟩ : ByteArray).extract R (R + 1))) w := by
  have h10 : (⟨#[48, 49, 50, 51, 52, 53, 54, 55, 56, 57]⟩ : ByteArray).size = 10 := rfl
  generalize (⟨#[48, 49, 50, 51, 52, 53, 54, 55, 56, 57]⟩ : ByteArray) = s at *
  have := run_slice_string (P := P) w t s .u64 .u64 (R : Int) ((R : Int) + 1) h (by omega) (by omega) (by omega)
  rw [Int.toNat_natCast, show ((R : Int) + 1).toNat = R + 1 from by omega] at this
  exact this
/-- The size of a text, 0 of any other value. -/
def szT (v : Value) : Nat := match v with
  | .string s => s.size
  | _ => 0
/-- The halves of what is left behind j digits. -/
def hw (m j : Nat) : Int := ((m / 10 ^ j / 18446744073709551616 : Nat) : Int)
def lw (m j : Nat) : Int := ((m / 10 ^ j % 18446744073709551616 : Nat) : Int)
theorem hw_is {m j n : Nat} (h : m / 10 ^ j / 18446744073709551616 = n) : hw m j = (n : Int) := by rw [← h]; rfl
theorem lw_is {m j n : Nat} (h : m / 10 ^ j % 18446744073709551616 = n) : lw m j = (n : Int) := by rw [← h]; rfl
theorem hw_zero (m : Nat) : hw m 0 = ((m / 18446744073709551616 : Nat) : Int) := by unfold hw; rw [Nat.pow_zero, Nat.div_one]
theorem lw_zero (m : Nat) : lw m 0 = ((m % 18446744073709551616 : Nat) : Int) := by unfold lw; rw [Nat.pow_zero, Nat.div_one]
end Go.WD
namespace Go.Proofs.Ytollobhkdbodlaa
open Go.RowKit Go.VB Go.WD Go.DT Go.DC
set_option maxRecDepth 100000 in
set_option maxHeartbeats 4000000 in
theorem rwformat_any (z : Int) (w : World) (hz : W128 z) : Calls Try.prog 26 #[wd z] w (RetB (.string (FT z)) w) := by
  by_cases hn : z < 0
  · obtain ⟨m, rfl⟩ : ∃ m : Nat, z = -(m : Int) := ⟨z.natAbs, by omega⟩
    have hm : m ≤ 170141183460469231731687303715884105728 := by unfold W128 at hz; omega
    have hcat : str (by8 (45 :: dg m (nd m))) = ⟨#[45]⟩ ++ str (by8 (dg m (nd m))) := by
      rw [show (⟨#[45]⟩ : ByteArray) = str [45] from rfl, str_append]; rfl
    rw [ft_neg hn, show (-(m : Int)).natAbs = m from by omega, wd_is]
    have hneg : decide (hi (-(m : Int)) < 0) = true := decide_eq_true (by unfold W128 at hz; unfold hi wrap64; omega)
    have hN := fun w => Lib.hid (rwneg_any (-(m : Int)) w)
    rw [Int.neg_neg] at hN
    have e1 := hi_nat (u := m) (by omega)
    have e2 := lo_nat m
    rw [← hw_zero] at e1
    rw [← lw_zero] at e2
    simp only [wd_is] at hN
    rw [e2] at hN
    clear hz hn e2
    generalize hi (-(m : Int)) = p0 at *
    generalize lo (-(m : Int)) = u0 at *
    generalize hi (m : Int) = p at *
    have v0 := Var2.new w (.int .i64 p0) (.int .u64 u0) 24
    have hb0 : Below w.heap.size w (w.alloc (.cells #[.int .i64 p0, .int .u64 u0] 24)) := by go_grown
    go_enter Try.func26, Try.ntmps26
    go_wp2_with fail
    refine (hN _).out.mono ?_
    rintro e w1 ⟨rfl, hb1⟩
    replace hb0 := bel_trans hb0 hb1
    replace v0 := v0.step hb1
    clear hb1 hN
    have v1 := v0.set (.int .i64 p) (.int .u64 (lw m 0))
    replace hb0 := set2_below hb0 (Nat.le_refl _) (.int .i64 p) (.int .u64 (lw m 0))
    obtain ⟨k0, k1, k2, k3⟩ := v0
    go_wp2_with fail
    clear k0 k1 k2 k3
    obtain ⟨a0, a1, -, -⟩ := v1.drew
    go_region
    go_wp2_with fail
    clear a0 a1 v1 e1 hneg
    go_loop [4, 5, 6] (fun h l x => ∃ j : Nat, h = .int .u64 (hw m j) ∧ l = .int .u64 (lw m j) ∧ x = .string (str (by8 (dg m j))) ∧ j ≤ nd m) (fun _ _ x => 39 - szT x)
    case atStart => exact ⟨0, rfl, rfl, rfl, Nat.zero_le _⟩
    case round =>
      obtain ⟨j, rfl, rfl, rfl, hj⟩ := hrel
      rw [show hw m j = ((m / 10 ^ j / 18446744073709551616 : Nat) : Int) from rfl, show lw m j = ((m / 10 ^ j % 18446744073709551616 : Nat) : Int) from rfl]
      have hdn := div_next m j
      have hmj : m / 10 ^ j ≤ m := Nat.div_le_self _ _
      have hle := left_iff (m := m) (j := j)
      have hnd : nd m = max 1 (len m) := rfl
      have hn39 := nd_max hm
      have hL : m / 10 ^ j % 18446744073709551616 < 18446744073709551616 := Nat.mod_lt _ (by decide)
      have hH : m / 10 ^ j / 18446744073709551616 < 18446744073709551616 := by omega
      have hsz : (str (by8 (dg m j))).size = j := by rw [str_size, by8_len, dg_len]
      by_cases h1 : m / 10 ^ j / 18446744073709551616 = 0
      · have hc1 : (((m / 10 ^ j / 18446744073709551616 : Nat) : Int) != 0) = false := by rw [h1]; rfl
        by_cases h2 : m / 10 ^ j % 18446744073709551616 = 0
        · have hc2 : (((m / 10 ^ j % 18446744073709551616 : Nat) : Int) != 0) = false := by rw [h2]; rfl
          by_cases h3 : j = 0
          · have hj1 : j + 1 ≤ nd m := by have := nd_pos m; omega
            have hc3 := is_empty (hsz.trans h3)
            clear h1 h2
            have hend := bit_end (u := m / 10 ^ j) rfl rfl
            have hd1 : dg m (j + 1) = (48 + m / 10 ^ j % 10) :: dg m j := rfl
            have hj39 : j ≤ 38 := by omega
            rw [hend.2.2] at hd1
            rw [hdn] at hend
            have HE := Lib.hid hend; have HD := Lib.hid hd1; have HJ := Lib.hid hj1; have HSZ := Lib.hid hsz
            clear hend hd1 hdn hmj hle hnd hn39 hsz hj
            have hc1' := hc1; clear hc1; have hc1 := hc1'; clear hc1'
            generalize m / 10 ^ j % 18446744073709551616 = L at *
            generalize m / 10 ^ j / 18446744073709551616 = H at *
            generalize gT : str (by8 (dg m j)) = T at *
            have GT := Lib.hid gT; clear gT
            go_wp2_with fail
            clear hc1 hc2 hc3
            go_loop [7, 8, 9] (fun r q k => ∃ i : Nat, r = .int .u64 ((vb H L i % 10 : Nat) : Int) ∧ q = .int .u64 ((qb H L i : Nat) : Int) ∧ k = .int .i64 (63 - (i : Int)) ∧ i ≤ 64) (fun _ _ k => (intOf k + 1).toNat)
            case atStart => exact ⟨0, by rw [vb_zero hL, Nat.mod_mod]; rfl, by unfold qb; rw [vb_zero hL, Nat.div_eq_of_lt (Nat.mod_lt _ (by decide)), Nat.zero_mul]; rfl, rfl, by decide⟩
            case round =>
              obtain ⟨i, rfl, rfl, rfl, hi⟩ := hrel
              by_cases hlt : i < 64
              · have hand := and_bit (i := i) hL
                have hor := or_bit (H := H) hL hlt
                generalize gb : L / 2 ^ (63 - i) % 2 = b at *
                generalize gr : vb H L i % 10 = r at *
                generalize gq : qb H L i = q at *
                have HS := Lib.hid (bit_step hlt gb gr gq)
                have hr : r < 10 := by rw [← gr]; exact Nat.mod_lt _ (by decide)
                have hb2 : b < 2 := by rw [← gb]; exact Nat.mod_lt _ (by decide)
                clear gb gr gq
                by_cases h10 : 2 * r + b < 10
                · obtain ⟨t1, t2⟩ := HS.out.1 h10
                  have T1 := Lib.hid t1; have T2 := Lib.hid t2
                  clear t1 t2 HS hor
                  go_wp2
                  exact ⟨⟨i + 1, by rw [T1.out]; go_num, by rw [T2.out], by go_num, by omega⟩, by simp [intOf] <;> omega⟩
                · obtain ⟨t1, t2⟩ := HS.out.2 (by omega)
                  have T1 := Lib.hid t1; have T2 := Lib.hid t2
                  clear t1 t2 HS
                  go_wp2
                  exact ⟨⟨i + 1, by rw [T1.out]; go_num, vint (by rw [T2.out, Int.natCast_add, Int.natCast_pow]; rfl), by go_num, by omega⟩, by simp [intOf] <;> omega⟩
              · obtain rfl : i = 64 := by omega
                have hR : vb H L 64 % 10 < 10 := Nat.mod_lt _ (by decide)
                have hQ := qb_lt (H := H) hL (Nat.le_refl 64)
                generalize vb H L 64 % 10 = R at *
                generalize qb H L 64 = Q at *
                have hx := digit_text hR
                generalize gDg : str [UInt8.ofNat (48 + R)] = Dg at hx
                have hsl : ∀ w, (Instr.slice 9 (.string ⟨#[48, 49, 50, 51, 52, 53, 54, 55, 56, 57]⟩) (some (.int .u64 (R : Int))) (some (.int .u64 ((R : Int) + 1))) none).run Try.prog w = .ok (.string Dg) w := fun w => by rw [← hx]; exact cut10 Try.underlying9 hR w
                clear hx
                have hDs : Dg.size = 1 := by rw [← gDg, str_size]; rfl
                have hTs : T.size ≤ 38 := by rw [HSZ.out]; exact hj39
                have hadd := fun w => run_string_add_sum (P := Try.prog) w Dg T (by omega)
                have htx : Dg ++ T = str (by8 (dg m (j + 1))) := by rw [← gDg, HD.out, ← GT.out, str_append]; rfl
                have hns : (Dg ++ T).size = j + 1 := by rw [htx, str_size, by8_len, dg_len]
                have HTX := Lib.hid htx; have HNS := Lib.hid hns; clear htx hns
                clear gDg hDs
                generalize Dg ++ T = T' at *
                clear hlt hi
                go_wp2
                exact ⟨⟨j + 1, vint (by rw [hw_is HE.out.1]; rfl), vint (by rw [lw_is HE.out.2.1]), by rw [HTX.out], HJ.out⟩, by have h1 := HNS.out; have h2 := HSZ.out; show 39 - T'.size < 39 - T.size; omega⟩
          · have hu0 : m / 10 ^ j = 0 := by omega
            have hjn : nd m = j := by have := hle.1 hu0; omega
            have hc3 := ne_empty (s := str (by8 (dg m j))) (by omega)
            have hcat2 : str (by8 (45 :: dg m (nd m))) = ⟨#[45]⟩ ++ str (by8 (dg m j)) := by rw [hcat, hjn]
            have HW := Lib.hid hcat2
            have hT : (str (by8 (dg m j))).size ≤ 39 := by omega
            clear h1 h2 h3 hcat2 hcat hu0 hdn hmj hle hnd hn39 hL hH hj hjn hsz
            generalize m / 10 ^ j % 18446744073709551616 = L at *
            generalize m / 10 ^ j / 18446744073709551616 = H at *
            generalize str (by8 (dg m j)) = T at *
            have hadd := fun w => run_string_add_sum (P := Try.prog) w ⟨#[45]⟩ T (by have : (⟨#[45]⟩ : ByteArray).size = 1 := rfl; omega)
            clear hT
            go_wp2
            go_ret
            exact RetB.mk (by rw [HW.out]; rfl) hb0.drew
        · have hc2 : (((m / 10 ^ j % 18446744073709551616 : Nat) : Int) != 0) = true := bne_iff_ne.2 (by omega)
          have hj1 : j + 1 ≤ nd m := by
            have : ¬ m / 10 ^ j = 0 := by omega
            omega
          clear h1 h2
          have hend := bit_end (u := m / 10 ^ j) rfl rfl
          have hd1 : dg m (j + 1) = (48 + m / 10 ^ j % 10) :: dg m j := rfl
          have hj39 : j ≤ 38 := by omega
          rw [hend.2.2] at hd1
          rw [hdn] at hend
          have HE := Lib.hid hend; have HD := Lib.hid hd1; have HJ := Lib.hid hj1; have HSZ := Lib.hid hsz
          clear hend hd1 hdn hmj hle hnd hn39 hsz hj
          have hc1' := hc1; clear hc1; have hc1 := hc1'; clear hc1'
          generalize m / 10 ^ j % 18446744073709551616 = L at *
          generalize m / 10 ^ j / 18446744073709551616 = H at *
          generalize gT : str (by8 (dg m j)) = T at *
          have GT := Lib.hid gT; clear gT
          go_wp2_with fail
          clear hc1 hc2
          go_loop [7, 8, 9] (fun r q k => ∃ i : Nat, r = .int .u64 ((vb H L i % 10 : Nat) : Int) ∧ q = .int .u64 ((qb H L i : Nat) : Int) ∧ k = .int .i64 (63 - (i : Int)) ∧ i ≤ 64) (fun _ _ k => (intOf k + 1).toNat)
          case atStart => exact ⟨0, by rw [vb_zero hL, Nat.mod_mod]; rfl, by unfold qb; rw [vb_zero hL, Nat.div_eq_of_lt (Nat.mod_lt _ (by decide)), Nat.zero_mul]; rfl, rfl, by decide⟩
          case round =>
            obtain ⟨i, rfl, rfl, rfl, hi⟩ := hrel
            by_cases hlt : i < 64
            · have hand := and_bit (i := i) hL
              have hor := or_bit (H := H) hL hlt
              generalize gb : L / 2 ^ (63 - i) % 2 = b at *
              generalize gr : vb H L i % 10 = r at *
              generalize gq : qb H L i = q at *
              have HS := Lib.hid (bit_step hlt gb gr gq)
              have hr : r < 10 := by rw [← gr]; exact Nat.mod_lt _ (by decide)
              have hb2 : b < 2 := by rw [← gb]; exact Nat.mod_lt _ (by decide)
              clear gb gr gq
              by_cases h10 : 2 * r + b < 10
              · obtain ⟨t1, t2⟩ := HS.out.1 h10
                have T1 := Lib.hid t1; have T2 := Lib.hid t2
                clear t1 t2 HS hor
                go_wp2
                exact ⟨⟨i + 1, by rw [T1.out]; go_num, by rw [T2.out], by go_num, by omega⟩, by simp [intOf] <;> omega⟩
              · obtain ⟨t1, t2⟩ := HS.out.2 (by omega)
                have T1 := Lib.hid t1; have T2 := Lib.hid t2
                clear t1 t2 HS
                go_wp2
                exact ⟨⟨i + 1, by rw [T1.out]; go_num, vint (by rw [T2.out, Int.natCast_add, Int.natCast_pow]; rfl), by go_num, by omega⟩, by simp [intOf] <;> omega⟩
            · obtain rfl : i = 64 := by omega
              have hR : vb H L 64 % 10 < 10 := Nat.mod_lt _ (by decide)
              have hQ := qb_lt (H := H) hL (Nat.le_refl 64)
              generalize vb H L 64 % 10 = R at *
              generalize qb H L 64 = Q at *
              have hx := digit_text hR
              generalize gDg : str [UInt8.ofNat (48 + R)] = Dg at hx
              have hsl : ∀ w, (Instr.slice 9 (.string ⟨#[48, 49, 50, 51, 52, 53, 54, 55, 56, 57]⟩) (some (.int .u64 (R : Int))) (some (.int .u64 ((R : Int) + 1))) none).run Try.prog w = .ok (.string Dg) w := fun w => by rw [← hx]; exact cut10 Try.underlying9 hR w
              clear hx
              have hDs : Dg.size = 1 := by rw [← gDg, str_size]; rfl
              have hTs : T.size ≤ 38 := by rw [HSZ.out]; exact hj39
              have hadd := fun w => run_string_add_sum (P := Try.prog) w Dg T (by omega)
              have htx : Dg ++ T = str (by8 (dg m (j + 1))) := by rw [← gDg, HD.out, ← GT.out, str_append]; rfl
              have hns : (Dg ++ T).size = j + 1 := by rw [htx, str_size, by8_len, dg_len]
              have HTX := Lib.hid htx; have HNS := Lib.hid hns; clear htx hns
              clear gDg hDs
              generalize Dg ++ T = T' at *
              clear hlt hi
              go_wp2
              exact ⟨⟨j + 1, vint (by rw [hw_is HE.out.1]; rfl), vint (by rw [lw_is HE.out.2.1]), by rw [HTX.out], HJ.out⟩, by have h1 := HNS.out; have h2 := HSZ.out; show 39 - T'.size < 39 - T.size; omega⟩
      · have hc1 : (((m / 10 ^ j / 18446744073709551616 : Nat) : Int) != 0) = true := bne_iff_ne.2 (by omega)
        have hj1 : j + 1 ≤ nd m := by
          have : ¬ m / 10 ^ j = 0 := by omega
          omega
        clear h1
        have hend := bit_end (u := m / 10 ^ j) rfl rfl
        have hd1 : dg m (j + 1) = (48 + m / 10 ^ j % 10) :: dg m j := rfl
        have hj39 : j ≤ 38 := by omega
        rw [hend.2.2] at hd1
        rw [hdn] at hend
        have HE := Lib.hid hend; have HD := Lib.hid hd1; have HJ := Lib.hid hj1; have HSZ := Lib.hid hsz
        clear hend hd1 hdn hmj hle hnd hn39 hsz hj
        have hc1' := hc1; clear hc1; have hc1 := hc1'; clear hc1'
        generalize m / 10 ^ j % 18446744073709551616 = L at *
        generalize m / 10 ^ j / 18446744073709551616 = H at *
        generalize gT : str (by8 (dg m j)) = T at *
        have GT := Lib.hid gT; clear gT
        go_wp2_with fail
        clear hc1
        go_loop [7, 8, 9] (fun r q k => ∃ i : Nat, r = .int .u64 ((vb H L i % 10 : Nat) : Int) ∧ q = .int .u64 ((qb H L i : Nat) : Int) ∧ k = .int .i64 (63 - (i : Int)) ∧ i ≤ 64) (fun _ _ k => (intOf k + 1).toNat)
        case atStart => exact ⟨0, by rw [vb_zero hL, Nat.mod_mod]; rfl, by unfold qb; rw [vb_zero hL, Nat.div_eq_of_lt (Nat.mod_lt _ (by decide)), Nat.zero_mul]; rfl, rfl, by decide⟩
        case round =>
          obtain ⟨i, rfl, rfl, rfl, hi⟩ := hrel
          by_cases hlt : i < 64
          · have hand := and_bit (i := i) hL
            have hor := or_bit (H := H) hL hlt
            generalize gb : L / 2 ^ (63 - i) % 2 = b at *
            generalize gr : vb H L i % 10 = r at *
            generalize gq : qb H L i = q at *
            have HS := Lib.hid (bit_step hlt gb gr gq)
            have hr : r < 10 := by rw [← gr]; exact Nat.mod_lt _ (by decide)
            have hb2 : b < 2 := by rw [← gb]; exact Nat.mod_lt _ (by decide)
            clear gb gr gq
            by_cases h10 : 2 * r + b < 10
            · obtain ⟨t1, t2⟩ := HS.out.1 h10
              have T1 := Lib.hid t1; have T2 := Lib.hid t2
              clear t1 t2 HS hor
              go_wp2
              exact ⟨⟨i + 1, by rw [T1.out]; go_num, by rw [T2.out], by go_num, by omega⟩, by simp [intOf] <;> omega⟩
            · obtain ⟨t1, t2⟩ := HS.out.2 (by omega)
              have T1 := Lib.hid t1; have T2 := Lib.hid t2
              clear t1 t2 HS
              go_wp2
              exact ⟨⟨i + 1, by rw [T1.out]; go_num, vint (by rw [T2.out, Int.natCast_add, Int.natCast_pow]; rfl), by go_num, by omega⟩, by simp [intOf] <;> omega⟩
          · obtain rfl : i = 64 := by omega
            have hR : vb H L 64 % 10 < 10 := Nat.mod_lt _ (by decide)
            have hQ := qb_lt (H := H) hL (Nat.le_refl 64)
            generalize vb H L 64 % 10 = R at *
            generalize qb H L 64 = Q at *
            have hx := digit_text hR
            generalize gDg : str [UInt8.ofNat (48 + R)] = Dg at hx
            have hsl : ∀ w, (Instr.slice 9 (.string ⟨#[48, 49, 50, 51, 52, 53, 54, 55, 56, 57]⟩) (some (.int .u64 (R : Int))) (some (.int .u64 ((R : Int) + 1))) none).run Try.prog w = .ok (.string Dg) w := fun w => by rw [← hx]; exact cut10 Try.underlying9 hR w
            clear hx
            have hDs : Dg.size = 1 := by rw [← gDg, str_size]; rfl
            have hTs : T.size ≤ 38 := by rw [HSZ.out]; exact hj39
            have hadd := fun w => run_string_add_sum (P := Try.prog) w Dg T (by omega)
            have htx : Dg ++ T = str (by8 (dg m (j + 1))) := by rw [← gDg, HD.out, ← GT.out, str_append]; rfl
            have hns : (Dg ++ T).size = j + 1 := by rw [htx, str_size, by8_len, dg_len]
            have HTX := Lib.hid htx; have HNS := Lib.hid hns; clear htx hns
            clear gDg hDs
            generalize Dg ++ T = T' at *
            clear hlt hi
            go_wp2
            exact ⟨⟨j + 1, vint (by rw [hw_is HE.out.1]; rfl), vint (by rw [lw_is HE.out.2.1]), by rw [HTX.out], HJ.out⟩, by have h1 := HNS.out; have h2 := HSZ.out; show 39 - T'.size < 39 - T.size; omega⟩
  · obtain ⟨m, rfl⟩ := Int.eq_ofNat_of_zero_le (show 0 ≤ z by omega)
    have hm : m ≤ 170141183460469231731687303715884105728 := by unfold W128 at hz; omega
    rw [ft_pos hn, Int.natAbs_natCast]
    have hneg : decide (hi (m : Int) < 0) = false := decide_eq_false (by unfold W128 at hz; unfold hi wrap64; omega)
    have e1 := hi_nat (u := m) (by omega)
    have e2 := lo_nat m
    rw [← hw_zero] at e1
    rw [← lw_zero] at e2
    rw [wd_is, e2]
    clear hz hn e2
    generalize hi (m : Int) = p at *
    have v1 := Var2.new w (.int .i64 p) (.int .u64 (lw m 0)) 24
    have hb0 : Below w.heap.size w (w.alloc (.cells #[.int .i64 p, .int .u64 (lw m 0)] 24)) := by go_grown
    go_enter Try.func26, Try.ntmps26
    go_wp2_with fail
    obtain ⟨a0, a1, -, -⟩ := v1.drew
    go_region
    go_wp2_with fail
    clear a0 a1 v1 e1 hneg
    go_loop [4, 5, 6] (fun h l x => ∃ j : Nat, h = .int .u64 (hw m j) ∧ l = .int .u64 (lw m j) ∧ x = .string (str (by8 (dg m j))) ∧ j ≤ nd m) (fun _ _ x => 39 - szT x)
    case atStart => exact ⟨0, rfl, rfl, rfl, Nat.zero_le _⟩
    case round =>
      obtain ⟨j, rfl, rfl, rfl, hj⟩ := hrel
      rw [show hw m j = ((m / 10 ^ j / 18446744073709551616 : Nat) : Int) from rfl, show lw m j = ((m / 10 ^ j % 18446744073709551616 : Nat) : Int) from rfl]
      have hdn := div_next m j
      have hmj : m / 10 ^ j ≤ m := Nat.div_le_self _ _
      have hle := left_iff (m := m) (j := j)
      have hnd : nd m = max 1 (len m) := rfl
      have hn39 := nd_max hm
      have hL : m / 10 ^ j % 18446744073709551616 < 18446744073709551616 := Nat.mod_lt _ (by decide)
      have hH : m / 10 ^ j / 18446744073709551616 < 18446744073709551616 := by omega
      have hsz : (str (by8 (dg m j))).size = j := by rw [str_size, by8_len, dg_len]
      by_cases h1 : m / 10 ^ j / 18446744073709551616 = 0
      · have hc1 : (((m / 10 ^ j / 18446744073709551616 : Nat) : Int) != 0) = false := by rw [h1]; rfl
        by_cases h2 : m / 10 ^ j % 18446744073709551616 = 0
        · have hc2 : (((m / 10 ^ j % 18446744073709551616 : Nat) : Int) != 0) = false := by rw [h2]; rfl
          by_cases h3 : j = 0
          · have hj1 : j + 1 ≤ nd m := by have := nd_pos m; omega
            have hc3 := is_empty (hsz.trans h3)
            clear h1 h2
            have hend := bit_end (u := m / 10 ^ j) rfl rfl
            have hd1 : dg m (j + 1) = (48 + m / 10 ^ j % 10) :: dg m j := rfl
            have hj39 : j ≤ 38 := by omega
            rw [hend.2.2] at hd1
            rw [hdn] at hend
            have HE := Lib.hid hend; have HD := Lib.hid hd1; have HJ := Lib.hid hj1; have HSZ := Lib.hid hsz
            clear hend hd1 hdn hmj hle hnd hn39 hsz hj
            have hc1' := hc1; clear hc1; have hc1 := hc1'; clear hc1'
            generalize m / 10 ^ j % 18446744073709551616 = L at *
            generalize m / 10 ^ j / 18446744073709551616 = H at *
            generalize gT : str (by8 (dg m j)) = T at *
            have GT := Lib.hid gT; clear gT
            go_wp2_with fail
            clear hc1 hc2 hc3
            go_loop [7, 8, 9] (fun r q k => ∃ i : Nat, r = .int .u64 ((vb H L i % 10 : Nat) : Int) ∧ q = .int .u64 ((qb H L i : Nat) : Int) ∧ k = .int .i64 (63 - (i : Int)) ∧ i ≤ 64) (fun _ _ k => (intOf k + 1).toNat)
            case atStart => exact ⟨0, by rw [vb_zero hL, Nat.mod_mod]; rfl, by unfold qb; rw [vb_zero hL, Nat.div_eq_of_lt (Nat.mod_lt _ (by decide)), Nat.zero_mul]; rfl, rfl, by decide⟩
            case round =>
              obtain ⟨i, rfl, rfl, rfl, hi⟩ := hrel
              by_cases hlt : i < 64
              · have hand := and_bit (i := i) hL
                have hor := or_bit (H := H) hL hlt
                generalize gb : L / 2 ^ (63 - i) % 2 = b at *
                generalize gr : vb H L i % 10 = r at *
                generalize gq : qb H L i = q at *
                have HS := Lib.hid (bit_step hlt gb gr gq)
                have hr : r < 10 := by rw [← gr]; exact Nat.mod_lt _ (by decide)
                have hb2 : b < 2 := by rw [← gb]; exact Nat.mod_lt _ (by decide)
                clear gb gr gq
                by_cases h10 : 2 * r + b < 10
                · obtain ⟨t1, t2⟩ := HS.out.1 h10
                  have T1 := Lib.hid t1; have T2 := Lib.hid t2
                  clear t1 t2 HS hor
                  go_wp2
                  exact ⟨⟨i + 1, by rw [T1.out]; go_num, by rw [T2.out], by go_num, by omega⟩, by simp [intOf] <;> omega⟩
                · obtain ⟨t1, t2⟩ := HS.out.2 (by omega)
                  have T1 := Lib.hid t1; have T2 := Lib.hid t2
                  clear t1 t2 HS
                  go_wp2
                  exact ⟨⟨i + 1, by rw [T1.out]; go_num, vint (by rw [T2.out, Int.natCast_add, Int.natCast_pow]; rfl), by go_num, by omega⟩, by simp [intOf] <;> omega⟩
              · obtain rfl : i = 64 := by omega
                have hR : vb H L 64 % 10 < 10 := Nat.mod_lt _ (by decide)
                have hQ := qb_lt (H := H) hL (Nat.le_refl 64)
                generalize vb H L 64 % 10 = R at *
                generalize qb H L 64 = Q at *
                have hx := digit_text hR
                generalize gDg : str [UInt8.ofNat (48 + R)] = Dg at hx
                have hsl : ∀ w, (Instr.slice 9 (.string ⟨#[48, 49, 50, 51, 52, 53, 54, 55, 56, 57]⟩) (some (.int .u64 (R : Int))) (some (.int .u64 ((R : Int) + 1))) none).run Try.prog w = .ok (.string Dg) w := fun w => by rw [← hx]; exact cut10 Try.underlying9 hR w
                clear hx
                have hDs : Dg.size = 1 := by rw [← gDg, str_size]; rfl
                have hTs : T.size ≤ 38 := by rw [HSZ.out]; exact hj39
                have hadd := fun w => run_string_add_sum (P := Try.prog) w Dg T (by omega)
                have htx : Dg ++ T = str (by8 (dg m (j + 1))) := by rw [← gDg, HD.out, ← GT.out, str_append]; rfl
                have hns : (Dg ++ T).size = j + 1 := by rw [htx, str_size, by8_len, dg_len]
                have HTX := Lib.hid htx; have HNS := Lib.hid hns; clear htx hns
                clear gDg hDs
                generalize Dg ++ T = T' at *
                clear hlt hi
                go_wp2
                exact ⟨⟨j + 1, vint (by rw [hw_is HE.out.1]; rfl), vint (by rw [lw_is HE.out.2.1]), by rw [HTX.out], HJ.out⟩, by have h1 := HNS.out; have h2 := HSZ.out; show 39 - T'.size < 39 - T.size; omega⟩
          · have hu0 : m / 10 ^ j = 0 := by omega
            have hjn : nd m = j := by have := hle.1 hu0; omega
            have hc3 := ne_empty (s := str (by8 (dg m j))) (by omega)
            have hwt : wt m = str (by8 (dg m j)) := by unfold wt; rw [hjn]
            have HW := Lib.hid hwt
            clear h1 h2 h3 hwt hu0 hdn hmj hle hnd hn39 hL hH hj hjn hsz
            generalize m / 10 ^ j % 18446744073709551616 = L at *
            generalize m / 10 ^ j / 18446744073709551616 = H at *
            generalize str (by8 (dg m j)) = T at *
            go_wp2
            go_ret
            exact RetB.mk (by rw [HW.out]; rfl) hb0.drew
        · have hc2 : (((m / 10 ^ j % 18446744073709551616 : Nat) : Int) != 0) = true := bne_iff_ne.2 (by omega)
          have hj1 : j + 1 ≤ nd m := by
            have : ¬ m / 10 ^ j = 0 := by omega
            omega
          clear h1 h2
          have hend := bit_end (u := m / 10 ^ j) rfl rfl
          have hd1 : dg m (j + 1) = (48 + m / 10 ^ j % 10) :: dg m j := rfl
          have hj39 : j ≤ 38 := by omega
          rw [hend.2.2] at hd1
          rw [hdn] at hend
          have HE := Lib.hid hend; have HD := Lib.hid hd1; have HJ := Lib.hid hj1; have HSZ := Lib.hid hsz
          clear hend hd1 hdn hmj hle hnd hn39 hsz hj
          have hc1' := hc1; clear hc1; have hc1 := hc1'; clear hc1'
          generalize m / 10 ^ j % 18446744073709551616 = L at *
          generalize m / 10 ^ j / 18446744073709551616 = H at *
          generalize gT : str (by8 (dg m j)) = T at *
          have GT := Lib.hid gT; clear gT
          go_wp2_with fail
          clear hc1 hc2
          go_loop [7, 8, 9] (fun r q k => ∃ i : Nat, r = .int .u64 ((vb H L i % 10 : Nat) : Int) ∧ q = .int .u64 ((qb H L i : Nat) : Int) ∧ k = .int .i64 (63 - (i : Int)) ∧ i ≤ 64) (fun _ _ k => (intOf k + 1).toNat)
          case atStart => exact ⟨0, by rw [vb_zero hL, Nat.mod_mod]; rfl, by unfold qb; rw [vb_zero hL, Nat.div_eq_of_lt (Nat.mod_lt _ (by decide)), Nat.zero_mul]; rfl, rfl, by decide⟩
          case round =>
            obtain ⟨i, rfl, rfl, rfl, hi⟩ := hrel
            by_cases hlt : i < 64
            · have hand := and_bit (i := i) hL
              have hor := or_bit (H := H) hL hlt
              generalize gb : L / 2 ^ (63 - i) % 2 = b at *
              generalize gr : vb H L i % 10 = r at *
              generalize gq : qb H L i = q at *
              have HS := Lib.hid (bit_step hlt gb gr gq)
              have hr : r < 10 := by rw [← gr]; exact Nat.mod_lt _ (by decide)
              have hb2 : b < 2 := by rw [← gb]; exact Nat.mod_lt _ (by decide)
              clear gb gr gq
              by_cases h10 : 2 * r + b < 10
              · obtain ⟨t1, t2⟩ := HS.out.1 h10
                have T1 := Lib.hid t1; have T2 := Lib.hid t2
                clear t1 t2 HS hor
                go_wp2
                exact ⟨⟨i + 1, by rw [T1.out]; go_num, by rw [T2.out], by go_num, by omega⟩, by simp [intOf] <;> omega⟩
              · obtain ⟨t1, t2⟩ := HS.out.2 (by omega)
                have T1 := Lib.hid t1; have T2 := Lib.hid t2
                clear t1 t2 HS
                go_wp2
                exact ⟨⟨i + 1, by rw [T1.out]; go_num, vint (by rw [T2.out, Int.natCast_add, Int.natCast_pow]; rfl), by go_num, by omega⟩, by simp [intOf] <;> omega⟩
            · obtain rfl : i = 64 := by omega
              have hR : vb H L 64 % 10 < 10 := Nat.mod_lt _ (by decide)
              have hQ := qb_lt (H := H) hL (Nat.le_refl 64)
              generalize vb H L 64 % 10 = R at *
              generalize qb H L 64 = Q at *
              have hx := digit_text hR
              generalize gDg : str [UInt8.ofNat (48 + R)] = Dg at hx
              have hsl : ∀ w, (Instr.slice 9 (.string ⟨#[48, 49, 50, 51, 52, 53, 54, 55, 56, 57]⟩) (some (.int .u64 (R : Int))) (some (.int .u64 ((R : Int) + 1))) none).run Try.prog w = .ok (.string Dg) w := fun w => by rw [← hx]; exact cut10 Try.underlying9 hR w
              clear hx
              have hDs : Dg.size = 1 := by rw [← gDg, str_size]; rfl
              have hTs : T.size ≤ 38 := by rw [HSZ.out]; exact hj39
              have hadd := fun w => run_string_add_sum (P := Try.prog) w Dg T (by omega)
              have htx : Dg ++ T = str (by8 (dg m (j + 1))) := by rw [← gDg, HD.out, ← GT.out, str_append]; rfl
              have hns : (Dg ++ T).size = j + 1 := by rw [htx, str_size, by8_len, dg_len]
              have HTX := Lib.hid htx; have HNS := Lib.hid hns; clear htx hns
              clear gDg hDs
              generalize Dg ++ T = T' at *
              clear hlt hi
              go_wp2
              exact ⟨⟨j + 1, vint (by rw [hw_is HE.out.1]; rfl), vint (by rw [lw_is HE.out.2.1]), by rw [HTX.out], HJ.out⟩, by have h1 := HNS.out; have h2 := HSZ.out; show 39 - T'.size < 39 - T.size; omega⟩
      · have hc1 : (((m / 10 ^ j / 18446744073709551616 : Nat) : Int) != 0) = true := bne_iff_ne.2 (by omega)
        have hj1 : j + 1 ≤ nd m := by
          have : ¬ m / 10 ^ j = 0 := by omega
          omega
        clear h1
        have hend := bit_end (u := m / 10 ^ j) rfl rfl
        have hd1 : dg m (j + 1) = (48 + m / 10 ^ j % 10) :: dg m j := rfl
        have hj39 : j ≤ 38 := by omega
        rw [hend.2.2] at hd1
        rw [hdn] at hend
        have HE := Lib.hid hend; have HD := Lib.hid hd1; have HJ := Lib.hid hj1; have HSZ := Lib.hid hsz
        clear hend hd1 hdn hmj hle hnd hn39 hsz hj
        have hc1' := hc1; clear hc1; have hc1 := hc1'; clear hc1'
        generalize m / 10 ^ j % 18446744073709551616 = L at *
        generalize m / 10 ^ j / 18446744073709551616 = H at *
        generalize gT : str (by8 (dg m j)) = T at *
        have GT := Lib.hid gT; clear gT
        go_wp2_with fail
        clear hc1
        go_loop [7, 8, 9] (fun r q k => ∃ i : Nat, r = .int .u64 ((vb H L i % 10 : Nat) : Int) ∧ q = .int .u64 ((qb H L i : Nat) : Int) ∧ k = .int .i64 (63 - (i : Int)) ∧ i ≤ 64) (fun _ _ k => (intOf k + 1).toNat)
        case atStart => exact ⟨0, by rw [vb_zero hL, Nat.mod_mod]; rfl, by unfold qb; rw [vb_zero hL, Nat.div_eq_of_lt (Nat.mod_lt _ (by decide)), Nat.zero_mul]; rfl, rfl, by decide⟩
        case round =>
          obtain ⟨i, rfl, rfl, rfl, hi⟩ := hrel
          by_cases hlt : i < 64
          · have hand := and_bit (i := i) hL
            have hor := or_bit (H := H) hL hlt
            generalize gb : L / 2 ^ (63 - i) % 2 = b at *
            generalize gr : vb H L i % 10 = r at *
            generalize gq : qb H L i = q at *
            have HS := Lib.hid (bit_step hlt gb gr gq)
            have hr : r < 10 := by rw [← gr]; exact Nat.mod_lt _ (by decide)
            have hb2 : b < 2 := by rw [← gb]; exact Nat.mod_lt _ (by decide)
            clear gb gr gq
            by_cases h10 : 2 * r + b < 10
            · obtain ⟨t1, t2⟩ := HS.out.1 h10
              have T1 := Lib.hid t1; have T2 := Lib.hid t2
              clear t1 t2 HS hor
              go_wp2
              exact ⟨⟨i + 1, by rw [T1.out]; go_num, by rw [T2.out], by go_num, by omega⟩, by simp [intOf] <;> omega⟩
            · obtain ⟨t1, t2⟩ := HS.out.2 (by omega)
              have T1 := Lib.hid t1; have T2 := Lib.hid t2
              clear t1 t2 HS
              go_wp2
              exact ⟨⟨i + 1, by rw [T1.out]; go_num, vint (by rw [T2.out, Int.natCast_add, Int.natCast_pow]; rfl), by go_num, by omega⟩, by simp [intOf] <;> omega⟩
          · obtain rfl : i = 64 := by omega
            have hR : vb H L 64 % 10 < 10 := Nat.mod_lt _ (by decide)
            have hQ := qb_lt (H := H) hL (Nat.le_refl 64)
            generalize vb H L 64 % 10 = R at *
            generalize qb H L 64 = Q at *
            have hx := digit_text hR
            generalize gDg : str [UInt8.ofNat (48 + R)] = Dg at hx
            have hsl : ∀ w, (Instr.slice 9 (.string ⟨#[48, 49, 50, 51, 52, 53, 54, 55, 56, 57]⟩) (some (.int .u64 (R : Int))) (some (.int .u64 ((R : Int) + 1))) none).run Try.prog w = .ok (.string Dg) w := fun w => by rw [← hx]; exact cut10 Try.underlying9 hR w
            clear hx
            have hDs : Dg.size = 1 := by rw [← gDg, str_size]; rfl
            have hTs : T.size ≤ 38 := by rw [HSZ.out]; exact hj39
            have hadd := fun w => run_string_add_sum (P := Try.prog) w Dg T (by omega)
            have htx : Dg ++ T = str (by8 (dg m (j + 1))) := by rw [← gDg, HD.out, ← GT.out, str_append]; rfl
            have hns : (Dg ++ T).size = j + 1 := by rw [htx, str_size, by8_len, dg_len]
            have HTX := Lib.hid htx; have HNS := Lib.hid hns; clear htx hns
            clear gDg hDs
            generalize Dg ++ T = T' at *
            clear hlt hi
            go_wp2
            exact ⟨⟨j + 1, vint (by rw [hw_is HE.out.1]; rfl), vint (by rw [lw_is HE.out.2.1]), by rw [HTX.out], HJ.out⟩, by have h1 := HNS.out; have h2 := HSZ.out; show 39 - T'.size < 39 - T.size; omega⟩
end Go.Proofs.Ytollobhkdbodlaa
