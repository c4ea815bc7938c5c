/- The walk over package decimal's number of a text. -/
import Derived.Test.YtidlemedkjkmdaaDoorDecW8
namespace Go.DC
open Go.VB Go.DT Go.RowKit
theorem okN_sgn {b : Bool} {v : Nat} (h : v ≤ 999999999999999999) : okN (sgn b v) := okN_abs.2 (by rw [sgn_abs]; exact h)
theorem resc_sgn {b : Bool} {v g k : Nat} (h : v ≤ 999999999999999999) (hg : g ≤ k) : resc (sgn b v) (g : Int) (k : Int) = if v * 10 ^ (k - g) ≤ 999999999999999999 then some (sgn b (v * 10 ^ (k - g))) else none := by
  unfold resc
  rw [if_pos (by omega), show ((k : Int) - (g : Int)).toNat = k - g from by omega, up_eq _ _ (by rw [sgn_abs]; exact h), sgn_abs, sgn_mul]
end Go.DC
namespace Go.Proofs.YtidlemedkjkmdaaDoor
open Go.RowKit Go.VB Go.DT Go.DC
theorem rescale_is (n a b x : Int) (c : Nat) (w : World) (h : okN n ∧ okS a ∧ okS b) (hx : oV (resc n a b) = x) (hc : oC (resc n a b) = c) : Calls Tryd.prog 69 #[.int .i64 n, .int .i64 a, .int .i64 b] w (Ret (.tuple #[.int .i64 x, .int .i64 (c : Int)]) w) := by
  have := rescale_any n a b w
  rw [rsN_in h, rsC_in h, hx, hc] at this
  exact this
set_option maxRecDepth 100000 in
set_option maxHeartbeats 4000000 in
theorem dparse_any (s : ByteArray) (k : Int) (w : World) (zs : s.size ≤ 140737488351232) : Calls Tryd.prog 53 #[.string s, .int .i64 k] w (RetB (.tuple #[.int .i64 (PN s k), .int .i64 (PC s k : Nat)]) w) := by
  have hS := scl_any k w
  have hF := split_any s w zs
  by_cases hk : okS k
  · rw [decide_eq_true hk] at hS
    have HS := Lib.hid hS; clear hS
    have hk' := hk
    unfold okS at hk'
    obtain ⟨k, rfl⟩ := Int.eq_ofNat_of_zero_le hk'.1
    have hk18 : k ≤ 18 := by omega
    clear hk'
    by_cases hok : okF s
    · have hdg := parts_dig hok
      have hps := parts_size (s := s)
      have hfi : fitsD s k ↔ (fp (body s)).size ≤ k ∧ big s k ≤ 999999999999999999 := Iff.rfl
      have hbg : big s k = vl (ip (body s) ++ fp (body s)) * 10 ^ (k - (fp (body s)).size) := rfl
      have hgr := big_grow s k
      have hPN := PN_in (s := s) (k := (k : Int)) hk hok
      have hPC := PC_in (s := s) (k := (k : Int)) hk hok
      have hPNo := PN_over (s := s) (k := (k : Int))
      have hPCo := PC_over (s := s) (k := (k : Int)) hk hok
      rw [Int.toNat_natCast] at hPN hPC hPNo hPCo
      rw [show spV s = .tuple #[.agg #[.bool (ngb s), .string (ip (body s)), .string (fp (body s))], .bool true] from if_pos hok] at hF
      have HPN := Lib.hid hPN; have HPC := Lib.hid hPC; have HPNo := Lib.hid hPNo; have HPCo := Lib.hid hPCo; have HFI := Lib.hid hfi; have HBG := Lib.hid hbg; have HGR := Lib.hid hgr; have HDG := Lib.hid hdg; have HF := Lib.hid hF; have HK := Lib.hid hk
      clear hPN hPC hPNo hPCo hfi hbg hgr hdg hok hk hF
      generalize ip (body s) = I at *
      generalize fp (body s) = G at *
      generalize ngb s = b at *
      go_enter Tryd.func53, Tryd.ntmps53
      go_wp2_with (go_at_call 38; refine HS.out.mono ?_; rintro e w' ⟨rfl, rfl⟩)
      refine HF.out.mono ?_
      rintro e w1 ⟨rfl, hb1⟩
      have hsz := hb1.size
      have hb2 := hb1.alloc hsz (.cells #[.bool b, .string I, .string G] 88)
      by_cases hG : k < G.size
      · have hn := HPNo.out fun h => absurd (HFI.out.1 h).1 (by omega)
        have hc := HPCo.out fun h => absurd (HFI.out.1 h).1 (by omega)
        have HN := Lib.hid hn; have HC := Lib.hid hc; clear hn hc
        go_wp2
        go_ret2
        exact RetB.mk (by rw [HN.out, HC.out]; rfl) hb2
      have hA := ByteArray.size_append (a := I) (b := G)
      have hnum := fun w => numof_any (I ++ G) w (by omega) (app_dig HDG.out.1 HDG.out.2)
      clear hA
      by_cases hv : vl (I ++ G) ≤ 999999999999999999
      · have hvn : vlN (I ++ G) = vl (I ++ G) := if_pos hv
        rw [hvn, decide_eq_true hv] at hnum
        have HNU := fun w => Lib.hid (hnum w); clear hnum hvn
        have hr := resc_sgn (b := b) (v := vl (I ++ G)) (g := G.size) (k := k) hv (by omega)
        rw [← HBG.out] at hr
        have hoS : okS (G.size : Int) := by unfold okS; omega
        by_cases hfit : big s k ≤ 999999999999999999
        · rw [if_pos hfit] at hr
          have HR := fun w => Lib.hid (rescale_is (sgn b (vl (I ++ G))) G.size k (sgn b (big s k)) 0 w ⟨okN_sgn hv, hoS, HK.out⟩ (by rw [hr]; rfl) (by rw [hr]; rfl))
          have HN := Lib.hid (HPN.out (HFI.out.2 ⟨by omega, hfit⟩)); have HC := Lib.hid (HPC.out (HFI.out.2 ⟨by omega, hfit⟩))
          clear hr hoS hfit
          generalize vl (I ++ G) = x at *
          cases b
          · go_wp2_with (first
              | (go_at_call 68; refine (HNU _).out.mono ?_; rintro e w' ⟨rfl, rfl⟩)
              | (go_at_call 69; refine (HR _).out.mono ?_; rintro e w' ⟨rfl, rfl⟩))
            go_ret2
            exact RetB.mk (by rw [HN.out, HC.out]; rfl) hb2
          · go_wp2_with (first
              | (go_at_call 68; refine (HNU _).out.mono ?_; rintro e w' ⟨rfl, rfl⟩)
              | (go_at_call 69; refine (HR _).out.mono ?_; rintro e w' ⟨rfl, rfl⟩))
            go_ret2
            exact RetB.mk (by rw [HN.out, HC.out]; rfl) hb2
        · rw [if_neg hfit] at hr
          have HR := fun w => Lib.hid (rescale_is (sgn b (vl (I ++ G))) G.size k 0 8 w ⟨okN_sgn hv, hoS, HK.out⟩ (by rw [hr]; rfl) (by rw [hr]; rfl))
          have HN := Lib.hid (HPNo.out fun h => hfit (HFI.out.1 h).2); have HC := Lib.hid (HPCo.out fun h => hfit (HFI.out.1 h).2)
          clear hr hoS hfit
          generalize vl (I ++ G) = x at *
          cases b
          · go_wp2_with (first
              | (go_at_call 68; refine (HNU _).out.mono ?_; rintro e w' ⟨rfl, rfl⟩)
              | (go_at_call 69; refine (HR _).out.mono ?_; rintro e w' ⟨rfl, rfl⟩))
            go_ret2
            exact RetB.mk (by rw [HN.out, HC.out]; rfl) hb2
          · go_wp2_with (first
              | (go_at_call 68; refine (HNU _).out.mono ?_; rintro e w' ⟨rfl, rfl⟩)
              | (go_at_call 69; refine (HR _).out.mono ?_; rintro e w' ⟨rfl, rfl⟩))
            go_ret2
            exact RetB.mk (by rw [HN.out, HC.out]; rfl) hb2
      · rw [decide_eq_false hv] at hnum
        have HNU := fun w => Lib.hid (hnum w); clear hnum
        have hnf : ¬ fitsD s k := fun h => hv (Nat.le_trans HGR.out (HFI.out.1 h).2)
        have HN := Lib.hid (HPNo.out hnf); have HC := Lib.hid (HPCo.out hnf)
        clear hnf hv
        go_wp2_with (go_at_call 68; refine (HNU _).out.mono ?_; rintro e w' ⟨rfl, rfl⟩)
        go_ret2
        exact RetB.mk (by rw [HN.out, HC.out]; rfl) hb2
    · have HN := Lib.hid (PN_form (s := s) (k := (k : Int)) hok); have HC := Lib.hid (PC_form hk hok)
      rw [show spV s = .tuple #[.agg #[.bool false, .string ⟨#[]⟩, .string ⟨#[]⟩], .bool false] from if_neg hok] at hF
      have HF := Lib.hid hF
      clear hk hok hF
      go_enter Tryd.func53, Tryd.ntmps53
      go_wp2_with (go_at_call 38; refine HS.out.mono ?_; rintro e w' ⟨rfl, rfl⟩)
      refine HF.out.mono ?_
      rintro e w1 ⟨rfl, hb1⟩
      have hsz := hb1.size
      have hb2 := hb1.alloc hsz (.cells #[.bool false, .string ⟨#[]⟩, .string ⟨#[]⟩] 88)
      go_wp2
      go_ret2
      exact RetB.mk (by rw [HN.out, HC.out]; rfl) hb2
  · have HN := Lib.hid (PN_range (s := s) hk); have HC := Lib.hid (PC_range (s := s) hk)
    rw [decide_eq_false hk] at hS
    have HS := Lib.hid hS; clear hS hk hF
    go_enter Tryd.func53, Tryd.ntmps53
    go_wp2_with (go_at_call 38; refine HS.out.mono ?_; rintro e w' ⟨rfl, rfl⟩)
    go_ret2
    exact RetB.mk (by rw [HN.out, HC.out]; rfl) (Below.refl _ _)
end Go.Proofs.YtidlemedkjkmdaaDoor
