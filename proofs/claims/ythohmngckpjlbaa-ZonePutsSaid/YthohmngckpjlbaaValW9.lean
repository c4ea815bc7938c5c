/- The walk over the reference's Get. -/
import Derived.Test.YthohmngckpjlbaaValW8
namespace Go.Proofs.Ythohmngckpjlbaa
open Go.RowKit Go.VB Go.VL Go.VarM
set_option maxRecDepth 100000 in
set_option maxHeartbeats 4000000 in
theorem rgetV_any (s : ByteArray) (i : Int) (w : World) (hs : s.size ≤ 4611686018427387904) : Calls Try.prog 43 #[.string s, .int .i64 i] w (RetB (getV s i).val w) := by
  unfold getV
  by_cases h0 : i < 0
  · rw [if_pos (.inl h0)]
    go_enter Try.func43, Try.ntmps43
    go_wp2
    refine bodyPost_ret (v := (gvF 4).val) (by simp [GV.val, gvF, results, Try.results43, go_sem]) rfl ?_
    exact RetB.mk rfl (by go_grown)
  obtain ⟨k, rfl⟩ := Int.eq_ofNat_of_zero_le (Int.not_lt.1 h0)
  by_cases h1 : s.size < k
  · rw [if_pos (.inr (by omega))]
    clear h0
    go_enter Try.func43, Try.ntmps43
    go_wp2
    refine bodyPost_ret (v := (gvF 4).val) (by simp [GV.val, gvF, results, Try.results43, go_sem]) rfl ?_
    exact RetB.mk rfl (by go_grown)
  rw [if_neg (by omega)]
  by_cases h2 : k = s.size
  · rw [if_pos (by omega)]
    subst h2
    clear h0 h1
    go_enter Try.func43, Try.ntmps43
    go_wp2
    refine bodyPost_ret (v := (gvF 10).val) (by simp [GV.val, gvF, results, Try.results43, go_sem]) rfl ?_
    exact RetB.mk rfl (by go_grown)
  rw [if_neg (by omega)]
  have hk : k < s.size := by omega
  have hne : ((k : Int) == (s.size : Int)) = false := ieq_f (by omega)
  have hb := get_bN s k
  have hbl := bN_lt s k
  rw [Int.toNat_natCast]
  clear h0 h1 h2
  generalize bN s k = b at *
  by_cases hb0 : b = 0
  · subst hb0
    rw [if_pos rfl]
    go_enter Try.func43, Try.ntmps43
    go_wp2
    refine bodyPost_ret (v := .tuple #[.agg #[.bool true, .int .i64 0, .string ⟨#[]⟩], .int .i64 ((k : Int) + 1), .int .i64 0]) (by simp [results, Try.results43, go_sem]) rfl ?_
    exact RetB.mk rfl (by go_grown)
  rw [if_neg hb0]
  have ht0 : ((b : Int) == 0) = false := ieq_f (by omega)
  by_cases hb1 : b = 1
  · subst hb1
    rw [if_pos rfl]
    clear hb0
    have hP : getP s ((k : Int) + 1) = if (getR s ((k : Int) + 1)).2.2 ≠ 0 then gvF (getR s ((k : Int) + 1)).2.2
      else if (getR s (getR s ((k : Int) + 1)).2.1).2.2 ≠ 0 then gvF (getR s (getR s ((k : Int) + 1)).2.1).2.2
      else if (s.size : Int) - (getR s (getR s ((k : Int) + 1)).2.1).2.1 < (getR s (getR s ((k : Int) + 1)).2.1).1 then gvF 10
      else ⟨false, zagN (getR s ((k : Int) + 1)).1, s.extract (getR s (getR s ((k : Int) + 1)).2.1).2.1.toNat ((getR s (getR s ((k : Int) + 1)).2.1).2.1.toNat + (getR s (getR s ((k : Int) + 1)).2.1).1), (getR s (getR s ((k : Int) + 1)).2.1).2.1 + (getR s (getR s ((k : Int) + 1)).2.1).1, 0⟩ := rfl
    rw [hP]; clear hP
    have H1 := fun w => Lib.hid (rget_any s ((k : Int) + 1) w (by unfold maxLen; omega))
    by_cases e1 : (getR s ((k : Int) + 1)).2.2 = 0
    · rw [if_neg (by simpa using e1)]
      obtain ⟨b1, b2, b3⟩ := getR_okV e1
      have H2 := fun w => Lib.hid (rget_any s (getR s ((k : Int) + 1)).2.1 w (by unfold maxLen; omega))
      have HZ := fun w => Lib.hid (rzag_any ((getR s ((k : Int) + 1)).1 : Int) w (by omega) (by omega))
      have hv1 : vres (getR s ((k : Int) + 1)) = .tuple #[.int .u64 ((getR s ((k : Int) + 1)).1 : Nat), .int .i64 (getR s ((k : Int) + 1)).2.1, .int .i64 0] := by unfold vres; rw [e1]; rfl
      rw [hv1] at H1
      clear hv1 e1
      generalize (getR s ((k : Int) + 1)).2.1 = i1 at *
      generalize zagN ((getR s ((k : Int) + 1)).1 : Int) = z at *
      generalize (getR s ((k : Int) + 1)).1 = n1 at *
      by_cases e2 : (getR s i1).2.2 = 0
      · rw [if_neg (by simpa using e2)]
        obtain ⟨c1, c2, c3⟩ := getR_okV e2
        have hv2 : vres (getR s i1) = .tuple #[.int .u64 ((getR s i1).1 : Nat), .int .i64 (getR s i1).2.1, .int .i64 0] := by unfold vres; rw [e2]; rfl
        rw [hv2] at H2
        clear hv2 e2
        generalize (getR s i1).2.1 = i2 at *
        generalize (getR s i1).1 = m at *
        obtain ⟨j, rfl⟩ := Int.eq_ofNat_of_zero_le c1
        have hj : j ≤ s.size := by omega
        clear c1 c2 b1 b2 b3
        by_cases h3 : (s.size : Int) - j < m
        · rw [if_pos h3]
          have hd : decide ((s.size : Int) - j < m) = true := decide_eq_true h3
          have hu : IntKind.u64.wrap ((s.size : Int) - j) = (s.size : Int) - j := IntWalk.u64_in _ ⟨by omega, by omega⟩
          go_enter Try.func43, Try.ntmps43
          go_wp2_with (first | (go_at_call 42; (with_reducible refine (H1 _).out.mono ?_); rintro e w' ⟨rfl, rfl⟩) | (go_at_call 42; (with_reducible refine (H2 _).out.mono ?_); rintro e w' ⟨rfl, rfl⟩))
          refine bodyPost_ret (v := (gvF 10).val) (by simp [GV.val, gvF, results, Try.results43, go_sem]) rfl ?_
          exact RetB.mk rfl (by go_grown)
        · rw [if_neg h3]
          have hm : j + m ≤ s.size := by omega
          have hd : decide ((s.size : Int) - j < m) = false := decide_eq_false h3
          have hu : IntKind.u64.wrap ((s.size : Int) - j) = (s.size : Int) - j := IntWalk.u64_in _ ⟨by omega, by omega⟩
          have hw1 : wrap64 (m : Int) = m := by unfold wrap64; omega
          have hw2 : wrap64 ((j : Int) + m) = j + m := by unfold wrap64; omega
          have hw3 : IntKind.i64.wrap (m : Int) = m := IntWalk.i64_in _ ⟨by omega, by omega⟩
          have hw4 : IntKind.i64.wrap ((j : Int) + m) = j + m := IntWalk.i64_in _ ⟨by omega, by omega⟩
          have ht : ((j : Int) + m).toNat = j + m := by omega
          have g1 : (0 : Int) ≤ (j : Int) + m := by omega
          have g2 : (j : Int) ≤ (j : Int) + m := by omega
          have g3 : (j : Int) + m ≤ (s.size : Int) := by omega
          clear h3
          go_enter Try.func43, Try.ntmps43
          go_wp2_with (first | (go_at_call 42; (with_reducible refine (H1 _).out.mono ?_); rintro e w' ⟨rfl, rfl⟩) | (go_at_call 42; (with_reducible refine (H2 _).out.mono ?_); rintro e w' ⟨rfl, rfl⟩))
          go_region_with (go_at_call 56; refine (HZ _).out.mono ?_; rintro e w' ⟨rfl, rfl⟩)
          all_goals
            go_wp2
            refine bodyPost_ret (v := .tuple #[.agg #[.bool false, .int .i64 z, .string (s.extract j (j + m))], .int .i64 ((j : Int) + m), .int .i64 0]) (by simp [results, Try.results43, go_sem]) rfl ?_
            exact RetB.mk rfl (by go_grown)
      · rw [if_pos e2]
        have hv2 : vres (getR s i1) = .tuple #[.int .u64 ((getR s i1).1 : Nat), .int .i64 (getR s i1).2.1, .int .i64 ((getR s i1).2.2 : Nat)] := rfl
        rw [hv2] at H2
        generalize (getR s i1).2.2 = c at *
        have hc : ((c : Int) != 0) = true := ine_t (by omega)
        clear hv2 e2
        go_enter Try.func43, Try.ntmps43
        go_wp2_with (first | (go_at_call 42; (with_reducible refine (H1 _).out.mono ?_); rintro e w' ⟨rfl, rfl⟩) | (go_at_call 42; (with_reducible refine (H2 _).out.mono ?_); rintro e w' ⟨rfl, rfl⟩))
        refine bodyPost_ret (v := (gvF c).val) (by simp [GV.val, gvF, results, Try.results43, go_sem]) rfl ?_
        exact RetB.mk rfl (by go_grown)
    · rw [if_pos e1]
      have hv1 : vres (getR s ((k : Int) + 1)) = .tuple #[.int .u64 ((getR s ((k : Int) + 1)).1 : Nat), .int .i64 (getR s ((k : Int) + 1)).2.1, .int .i64 ((getR s ((k : Int) + 1)).2.2 : Nat)] := rfl
      rw [hv1] at H1
      generalize (getR s ((k : Int) + 1)).2.2 = c at *
      have hc : ((c : Int) != 0) = true := ine_t (by omega)
      clear hv1 e1
      go_enter Try.func43, Try.ntmps43
      go_wp2_with (go_at_call 42; (with_reducible refine (H1 _).out.mono ?_); rintro e w' ⟨rfl, rfl⟩)
      refine bodyPost_ret (v := (gvF c).val) (by simp [GV.val, gvF, results, Try.results43, go_sem]) rfl ?_
      exact RetB.mk rfl (by go_grown)
  · rw [if_neg hb1]
    have ht1 : ((b : Int) != 1) = true := ine_t (by omega)
    clear hb0 hb1
    go_enter Try.func43, Try.ntmps43
    go_wp2
    refine bodyPost_ret (v := (gvF 2).val) (by simp [GV.val, gvF, results, Try.results43, go_sem]) rfl ?_
    exact RetB.mk rfl (by go_grown)
end Go.Proofs.Ythohmngckpjlbaa
