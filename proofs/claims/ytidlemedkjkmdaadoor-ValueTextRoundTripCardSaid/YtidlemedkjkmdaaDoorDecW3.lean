/- The walk over the reference's text of a decimal. -/
import Derived.Test.YtidlemedkjkmdaaDoorDecW2
namespace Go.DC
open Go.VB Go.DT Go.RowKit
theorem wrapi_small {x : Nat} (h : x ≤ 999999999999999999) : IntKind.i64.wrap (x : Int) = (x : Int) := by rw [IntKind.wrap_i64]; omega
theorem wrap64_small {x : Nat} (h : x ≤ 999999999999999999) : wrap64 (x : Int) = (x : Int) := by unfold wrap64; omega
theorem whole_str (m k : Nat) : dg (m / 10 ^ k) (max 1 (len (m / 10 ^ k))) = whole m k := rfl
theorem frac_dg (m k : Nat) : dg (m % 10 ^ k) (max k (len (m % 10 ^ k))) = dg m k := by
  have h := (len_le (m % 10 ^ k) k).1 (Nat.mod_lt _ (pow_pos' k))
  rw [Nat.max_eq_left h, dg_mod m k k (Nat.le_refl _)]
theorem okN_cases {n : Int} (h : okN n) : ∃ m : Nat, m ≤ 999999999999999999 ∧ n.natAbs = m ∧ (n = (m : Int) ∨ (n = -(m : Int) ∧ 1 ≤ m)) := by
  unfold okN at h
  exact ⟨n.natAbs, by omega, rfl, by omega⟩
theorem sign_pos (m : Nat) : sign (m : Int) = [] := if_neg (by omega)
theorem ft_text (n : Int) (k m : Nat) (s : List Nat) (h : ft n k = s ++ (whole m k ++ tail m k)) (hk : 0 < k) : str (by8 s) ++ str (by8 (whole m k)) ++ (str (by8 [46]) ++ str (by8 (dg m k))) = str (by8 (ft n k)) := by
  rw [h, cat_by8, cat_by8, cat_by8]
  unfold tail
  rw [if_neg (by omega), List.append_assoc]; rfl
theorem ft_text0 (n : Int) (k m : Nat) (s : List Nat) (h : ft n k = s ++ (whole m k ++ tail m k)) (hk : ¬ 0 < k) : str (by8 s) ++ str (by8 (whole m k)) = str (by8 (ft n k)) := by
  rw [h, cat_by8]
  unfold tail
  rw [if_pos (by omega), List.append_nil]
theorem by8_size_le {l : List Nat} {n : Nat} (h : l.length ≤ n) : (str (by8 l)).size ≤ n := by rw [str_size, by8_len]; exact h
theorem sign_neg {m : Nat} (h : 1 ≤ m) : sign (-(m : Int)) = [45] := if_pos (by omega)
end Go.DC
namespace Go.Proofs.YtidlemedkjkmdaaDoor
open Go.RowKit Go.VB Go.DT Go.DC
set_option maxRecDepth 100000 in
set_option maxHeartbeats 2000000 in
theorem rformat_any (n k : Int) (w : World) : Calls Tryd.prog 27 #[.int .i64 n, .int .i64 k] w (Ret (.tuple #[.string (FN n k), .int .i64 (FC n k : Nat)]) w) := by
  have h1 := rnum_any n k w
  by_cases hok : okN n ∧ okS k
  · rw [decide_eq_true hok] at h1
    rw [FN_in hok, FC_in hok]
    have H1 := Lib.hid h1; clear h1
    obtain ⟨o1, o2⟩ := hok
    unfold okS at o2
    obtain ⟨k, rfl⟩ := Int.eq_ofNat_of_zero_le o2.1
    have hk : k ≤ 18 := by omega
    clear o2
    rw [Int.toNat_natCast]
    obtain ⟨m, hm, hab, hcase⟩ := okN_cases o1
    clear o1
    have hp := Lib.hid (power_any k w hk)
    have hp1 := pow_pos' k
    have hql : m / 10 ^ k ≤ 999999999999999999 := Nat.le_trans (Nat.div_le_self _ _) hm
    have hrl : m % 10 ^ k ≤ 999999999999999999 := Nat.le_trans (Nat.mod_le _ _) hm
    have hd1 := rdigits_any (m / 10 ^ k) 1 w hql (by decide)
    have hd2 := rdigits_any (m % 10 ^ k) k w hrl hk
    rw [whole_str, show ((1 : Nat) : Int) = 1 from rfl] at hd1
    rw [frac_dg] at hd2
    have hpb : 10 ^ k ≤ 10 ^ 18 := Nat.pow_le_pow_right (by decide) hk
    rw [show (10 : Nat) ^ 18 = 1000000000000000000 from rfl] at hpb
    have hD1 := Lib.hid hd1; have hD2 := Lib.hid hd2; clear hd1 hd2
    have hwq : (m : Int) / ((10 ^ k : Nat) : Int) = ((m / 10 ^ k : Nat) : Int) := by push_cast; rfl
    have hwr : (m : Int) % ((10 ^ k : Nat) : Int) = ((m % 10 ^ k : Nat) : Int) := by push_cast; rfl
    have hft : ft n k = sign n ++ (whole m k ++ tail m k) := by unfold ft; rw [hab]
    have HFT := Lib.hid hft; clear hft hab
    generalize 10 ^ k = p at *
    generalize m / p = q at *
    generalize m % p = r at *
    have hq3 : wrap64 ((m : Int) / (p : Int)) = (q : Int) := by rw [hwq]; exact wrap64_small hql
    have hr3 : wrap64 ((m : Int) % (p : Int)) = (r : Int) := by rw [hwr]; exact wrap64_small hrl
    have hq7 : IntKind.i64.wrap ((m : Int) / (p : Int)) = (q : Int) := by rw [hwq]; exact wrapi_small hql
    have hr7 : IntKind.i64.wrap ((m : Int) % (p : Int)) = (r : Int) := by rw [hwr]; exact wrapi_small hrl
    have hq8 : IntKind.i64.wrap ((m : Int).tdiv (p : Int)) = (q : Int) := by rw [Int.tdiv_eq_ediv_of_nonneg (Int.natCast_nonneg _)]; exact hq7
    have hr8 : IntKind.i64.wrap ((m : Int).tmod (p : Int)) = (r : Int) := by rw [Int.tmod_eq_emod_of_nonneg (Int.natCast_nonneg _)]; exact hr7
    have HWR := Lib.hid hwr; clear hwq hwr
    have hA : (str (by8 (whole m k))).size ≤ 19 := by8_size_le (by rw [whole_len]; have := wn_bd (k := k) hm; omega)
    have hB : (str (by8 (dg m k))).size ≤ 18 := by8_size_le (by rw [dg_len]; exact hk)
    rcases hcase with rfl | ⟨rfl, hm1⟩
    · rw [sign_pos] at HFT
      by_cases hk0 : 0 < k
      · have HT := Lib.hid (ft_text _ k m _ HFT.out hk0)
        generalize str (by8 (ft (m : Int) k)) = T at *
        generalize str (by8 (whole m k)) = A at *
        generalize str (by8 (dg m k)) = B at *
        go_enter Tryd.func27, Tryd.ntmps27
        go_wp2_with (first
          | (go_at_call 45; refine H1.out.mono ?_; rintro e w' ⟨rfl, rfl⟩)
          | (go_at_call 46; refine hp.out.mono ?_; rintro e w' ⟨rfl, rfl⟩)
          | (go_at_call 44; (with_reducible refine hD1.out.mono ?_); rintro e w' ⟨rfl, rfl⟩)
          | (go_at_call 44; (rw [HWR.out]); (with_reducible refine hD2.out.mono ?_); rintro e w' ⟨rfl, rfl⟩))
        go_ret2
        exact Ret.mk (by rw [← HT.out]; rfl)
      · have HT := Lib.hid (ft_text0 _ k m _ HFT.out hk0)
        generalize str (by8 (ft (m : Int) k)) = T at *
        generalize str (by8 (whole m k)) = A at *
        generalize str (by8 (dg m k)) = B at *
        go_enter Tryd.func27, Tryd.ntmps27
        go_wp2_with (first
          | (go_at_call 45; refine H1.out.mono ?_; rintro e w' ⟨rfl, rfl⟩)
          | (go_at_call 46; refine hp.out.mono ?_; rintro e w' ⟨rfl, rfl⟩)
          | (go_at_call 44; (with_reducible refine hD1.out.mono ?_); rintro e w' ⟨rfl, rfl⟩)
          | (go_at_call 44; (rw [HWR.out]); (with_reducible refine hD2.out.mono ?_); rintro e w' ⟨rfl, rfl⟩))
        go_ret2
        exact Ret.mk (by rw [← HT.out]; rfl)
    · rw [sign_neg hm1] at HFT
      by_cases hk0 : 0 < k
      · have HT := Lib.hid (ft_text _ k m _ HFT.out hk0)
        generalize str (by8 (ft (-(m : Int)) k)) = T at *
        generalize str (by8 (whole m k)) = A at *
        generalize str (by8 (dg m k)) = B at *
        go_enter Tryd.func27, Tryd.ntmps27
        go_wp2_with (first
          | (go_at_call 45; refine H1.out.mono ?_; rintro e w' ⟨rfl, rfl⟩)
          | (go_at_call 46; refine hp.out.mono ?_; rintro e w' ⟨rfl, rfl⟩)
          | (go_at_call 44; (with_reducible refine hD1.out.mono ?_); rintro e w' ⟨rfl, rfl⟩)
          | (go_at_call 44; (rw [HWR.out]); (with_reducible refine hD2.out.mono ?_); rintro e w' ⟨rfl, rfl⟩))
        go_ret2
        exact Ret.mk (by rw [← HT.out]; rfl)
      · have HT := Lib.hid (ft_text0 _ k m _ HFT.out hk0)
        generalize str (by8 (ft (-(m : Int)) k)) = T at *
        generalize str (by8 (whole m k)) = A at *
        generalize str (by8 (dg m k)) = B at *
        go_enter Tryd.func27, Tryd.ntmps27
        go_wp2_with (first
          | (go_at_call 45; refine H1.out.mono ?_; rintro e w' ⟨rfl, rfl⟩)
          | (go_at_call 46; refine hp.out.mono ?_; rintro e w' ⟨rfl, rfl⟩)
          | (go_at_call 44; (with_reducible refine hD1.out.mono ?_); rintro e w' ⟨rfl, rfl⟩)
          | (go_at_call 44; (rw [HWR.out]); (with_reducible refine hD2.out.mono ?_); rintro e w' ⟨rfl, rfl⟩))
        go_ret2
        exact Ret.mk (by rw [← HT.out]; rfl)
  · rw [decide_eq_false hok] at h1
    rw [FN_out hok, FC_out hok]
    have H1 := Lib.hid h1; clear h1 hok
    go_enter Tryd.func27, Tryd.ntmps27
    go_wp2_with (go_at_call 45; refine H1.out.mono ?_; rintro e w' ⟨rfl, rfl⟩)
    go_ret2
    exact Ret.mk rfl
end Go.Proofs.YtidlemedkjkmdaaDoor
