/- The walks over package date and its reference: the day of a number. -/
import Derived.Test.YtidlemedkjkmdaaDoorDateW2
namespace Go.DT
theorem exists_day (k : Nat) (hk : k ≤ 3652058) : ∃ y m d : Int, okD y m d ∧ num y m d = -719162 + k := by
  induction k with
  | zero => exact ⟨1, 1, 1, by decide, by decide⟩
  | succ k ih =>
    obtain ⟨y, m, d, hok, hn⟩ := ih (by omega)
    rcases next hok (by omega) with ⟨h1, h2⟩ | ⟨h1, h2⟩ | ⟨h1, h2, _⟩
    · exact ⟨_, _, _, h1, by omega⟩
    · exact ⟨_, _, _, h1, by omega⟩
    · exact ⟨_, _, _, h1, by omega⟩
theorem day_of (n : Int) (h0 : -719162 ≤ n) (h1 : n ≤ 2932896) : ∃ y m d : Int, okD y m d ∧ num y m d = n := by
  obtain ⟨y, m, d, h, e⟩ := exists_day (n + 719162).toNat (by omega)
  exact ⟨y, m, d, h, by omega⟩
end Go.DT
namespace Go.Proofs.YtidlemedkjkmdaaDoor
open Go.RowKit Go.VB Go.DT
set_option maxRecDepth 100000 in
set_option maxHeartbeats 1000000 in
theorem civil_any (n : Int) (w : World) (h0 : -719162 ≤ n) (h1 : n ≤ 2932896) : Calls Tryd.prog 35 #[.int .i64 n] w (RetC n w) := by
  have hY := Lib.hid (year_any (n + 719162) w (by omega) (by omega))
  go_enter Tryd.func35, Tryd.ntmps35
  go_wp2_with (go_at_call 55; refine hY.out.mono ?_; rintro e w' ⟨rfl, y, rfl, hy1, hy2, hle, hlt⟩)
  have hb := dby_bd hy1
  have hJ := Lib.hid (dby_any y w hy1 (by omega))
  generalize hz : dby y = z at *
  have HZ := Lib.hid hz; clear hz
  have h12 := dbm_12 y
  have hdi : diy y ≤ 366 := by unfold diy; split <;> decide
  generalize diy y = D at *
  go_wp2_with (go_at_call 56; refine hJ.out.mono ?_; rintro e w' ⟨rfl, rfl⟩)
  go_loop [3, 6] (fun m r => ∃ (k : Nat) (R : Int), r = .int .i64 R ∧ R = n + 719162 - z - dbm y k ∧ 0 ≤ R ∧ m = .int .i64 ((k : Int) + 1) ∧ k ≤ 11) (fun m _ => (12 - intOf m).toNat)
  case atStart => exact ⟨0, _, rfl, by rw [dbm_zero]; omega, by omega, rfl, by decide⟩
  case round =>
    obtain ⟨k, R, rfl, hR, hR0, rfl, hk⟩ := hrel
    have hs := dbm_succ y k
    have hdk := dim_bd y ((k : Int) + 1)
    have hbk := dbm_bd y k
    have hk11 : k = 11 → dbm y (k + 1) = D := fun h => by rw [h]; exact h12
    have hfin := fun hr => found (n := n) (r := R) (k := k) hy1 hy2 hk hR0 hr (by rw [HZ.out]; exact hR)
    have hC := Lib.hid (dim_any y ((k : Int) + 1) w)
    generalize hq : dim y ((k : Int) + 1) = q at *
    generalize dbm y k = x at *
    generalize hx1 : dbm y (k + 1) = x1 at *
    have hk2 : q ≤ R → k + 1 ≤ 11 := fun hqr => by
      refine Nat.lt_of_le_of_ne hk fun he => ?_
      have := hk11 he; omega
    have HK := Lib.hid hk2; have HF := Lib.hid hfin; have HX := Lib.hid hx1; have HS := Lib.hid hs; have HR := Lib.hid hR
    clear hk2 hfin hx1 hs hR hk11 hq h12
    have hRu : R ≤ 9000000000 := by have := HR.out; have := HS.out; omega
    by_cases hlt : q ≤ R
    · have hk1 := HK.out hlt
      go_wp2_with (go_at_call 57; refine hC.out.mono ?_; rintro e w' ⟨rfl, rfl⟩)
      go_round
      case rel => exact ⟨k + 1, _, rfl, by rw [HX.out, HS.out, HR.out]; omega, by omega, by go_num, hk1⟩
      case measure => simp [intOf] <;> omega
    · go_wp2_with (go_at_call 57; refine hC.out.mono ?_; rintro e w' ⟨rfl, rfl⟩)
      (try simp only [Exit.inBlock, Exit.then]); refine bodyPost_ret (results_tmp4 rfl _ _) rfl ?_
      exact RetC.mk rfl rfl rfl (HF.out (by omega))
set_option maxRecDepth 100000 in
set_option maxHeartbeats 1000000 in
theorem civil_out (n : Int) (w : World) (h : n < -719162 ∨ 2932896 < n) : Calls Tryd.prog 35 #[.int .i64 n] w (Ret (.tuple #[.int .i64 0, .int .i64 0, .int .i64 0, .int .i64 4]) w) := by
  by_cases h1 : n < -719162
  · go_enter Tryd.func35, Tryd.ntmps35
    go_wp2
    (try simp only [Exit.inBlock, Exit.then]); refine bodyPost_ret (results_tmp4 rfl _ _) rfl ?_
    exact Ret.mk rfl
  · have h2 : 2932896 < n := by omega
    clear h
    go_enter Tryd.func35, Tryd.ntmps35
    go_wp2
    (try simp only [Exit.inBlock, Exit.then]); refine bodyPost_ret (results_tmp4 rfl _ _) rfl ?_
    exact Ret.mk rfl
set_option maxRecDepth 100000 in
set_option maxHeartbeats 1000000 in
theorem rcivil_any (n : Int) (w : World) (h0 : -719162 ≤ n) (h1 : n ≤ 2932896) : Calls Tryd.prog 43 #[.int .i64 n] w (RetC n w) := by
  go_enter Tryd.func43, Tryd.ntmps43
  go_wp2
  all_goals (
    go_loop [6] (fun i => ∃ y : Int, i = .int .i64 y ∧ 1 ≤ y ∧ y ≤ 9999 ∧ dby y ≤ n + 719162) (fun i => (10000 - intOf i).toNat)
    case atStart => first
      | exact ⟨1, rfl, by decide, by decide, by rw [dby_first]; omega⟩
      | exact ⟨(n + 719162) / 366, rfl, by omega, by omega, by have := (dby_bd (y := (n + 719162) / 366) (by omega)).2; omega⟩
    case round =>
      obtain ⟨y, rfl, hy1, hy2, hle⟩ := hrel
      have hd := dby_succ y
      have hb := dby_bd (y := y + 1) (by omega)
      have hs : -719162 + dby (y + 1) ≤ n → y + 1 ≤ 9999 := fun hle2 => by
        have := dby_inv (y := y + 1) (z := 10000) (by rw [dby_last]; omega)
        omega
      have hl : y = 9999 → n < -719162 + dby (y + 1) := fun h => by
        rw [h, show (9999 : Int) + 1 = 10000 from rfl, dby_last]; omega
      generalize hZ : dby (y + 1) = z at *
      have HZ := Lib.hid hZ; have HD := Lib.hid hd; clear hZ hd
      have hC := Lib.hid (jan_any (y + 1) w (by omega) (by omega))
      by_cases hlt : -719162 + z ≤ n
      · have hy3 := hs hlt
        clear hl hs
        go_wp2_with (go_at_call 62; refine hC.out.mono ?_; rw [HZ.out]; rintro e w' ⟨rfl, rfl⟩)
        go_round
        case rel => exact ⟨y + 1, by go_num, by omega, hy3, by rw [HZ.out]; omega⟩
        case measure => simp [intOf] <;> omega
      · have hin : n + 719162 < dby y + diy y := by rw [← HD.out]; omega
        have hJ := Lib.hid (jan_any y w hy1 (by omega))
        have hb2 := dby_bd hy1
        by_cases hy9 : y < 9999
        all_goals (
          clear hl hs
          go_wp2_with (first
            | (go_at_call 62; (with_reducible refine hC.out.mono ?_); rw [HZ.out]; rintro e w' ⟨rfl, rfl⟩)
            | (go_at_call 62; (with_reducible refine hJ.out.mono ?_); rintro e w' ⟨rfl, rfl⟩))
          clear hC HZ HD hJ hb hlt
          have h12 := dbm_12 y
          have hdi : diy y ≤ 366 := by unfold diy; split <;> decide
          generalize hz : dby y = z2 at *
          have HZ := Lib.hid hz; clear hz
          generalize diy y = D at *
          go_loop [0, 7] (fun r m => ∃ (k : Nat) (R : Int), r = .int .i64 R ∧ R = n + 719162 - z2 - dbm y k ∧ 0 ≤ R ∧ m = .int .i64 ((k : Int) + 1) ∧ k ≤ 11) (fun _ m => (12 - intOf m).toNat)
          case atStart => exact ⟨0, _, rfl, by rw [dbm_zero]; omega, by omega, rfl, by decide⟩
          case round =>
            obtain ⟨k, R, rfl, hR, hR0, rfl, hk⟩ := hrel
            have hs := dbm_succ y k
            have hdk := dim_bd y ((k : Int) + 1)
            have hbk := dbm_bd y k
            have hk11 : k = 11 → dbm y (k + 1) = D := fun h => by rw [h]; exact h12
            have hfin := fun hr => found (n := n) (r := R) (k := k) hy1 hy2 hk hR0 hr (by rw [HZ.out]; exact hR)
            have hC := Lib.hid (rdim_any y ((k : Int) + 1) w)
            generalize hq : dim y ((k : Int) + 1) = q at *
            generalize dbm y k = x at *
            generalize hx1 : dbm y (k + 1) = x1 at *
            have hk2 : q ≤ R → k + 1 ≤ 11 := fun hqr => by
              refine Nat.lt_of_le_of_ne hk fun he => ?_
              have := hk11 he; omega
            have HK := Lib.hid hk2; have HF := Lib.hid hfin; have HX := Lib.hid hx1; have HS := Lib.hid hs; have HR := Lib.hid hR
            clear hk2 hfin hx1 hs hR hk11 hq h12
            have hRu : R ≤ 9000000000 := by have := HR.out; have := HS.out; omega
            by_cases hlt : q ≤ R
            · have hk1 := HK.out hlt
              go_wp2_with (go_at_call 63; refine hC.out.mono ?_; rintro e w' ⟨rfl, rfl⟩)
              go_round
              case rel => exact ⟨k + 1, _, rfl, by rw [HX.out, HS.out, HR.out]; omega, by omega, by go_num, hk1⟩
              case measure => simp [intOf] <;> omega
            · go_wp2_with (go_at_call 63; refine hC.out.mono ?_; rintro e w' ⟨rfl, rfl⟩)
              (try simp only [Exit.inBlock, Exit.then]); refine bodyPost_ret (results_tmp4 rfl _ _) rfl ?_
              exact RetC.mk rfl rfl rfl (HF.out (by omega))))
set_option maxRecDepth 100000 in
set_option maxHeartbeats 1000000 in
theorem rcivil_out (n : Int) (w : World) (h : n < -719162 ∨ 2932896 < n) : Calls Tryd.prog 43 #[.int .i64 n] w (Ret (.tuple #[.int .i64 0, .int .i64 0, .int .i64 0, .int .i64 4]) w) := by
  by_cases h1 : n < -719162
  · go_enter Tryd.func43, Tryd.ntmps43
    go_wp2
    (try simp only [Exit.inBlock, Exit.then]); refine bodyPost_ret (results_tmp4 rfl _ _) rfl ?_
    exact Ret.mk rfl
  · have h2 : 2932896 < n := by omega
    clear h
    go_enter Tryd.func43, Tryd.ntmps43
    go_wp2
    (try simp only [Exit.inBlock, Exit.then]); refine bodyPost_ret (results_tmp4 rfl _ _) rfl ?_
    exact Ret.mk rfl
theorem RetC.at {n : Int} {w : World} {y m d : Int} (hok : okD y m d) (hn : num y m d = n) {e : Ending} {w' : World} (h : RetC n w e w') : Ret (.tuple #[.int .i64 y, .int .i64 m, .int .i64 d, .int .i64 0]) w e w' := by
  obtain ⟨hw, y', m', d', he, hok', hn'⟩ := h
  obtain ⟨rfl, rfl, rfl⟩ := num_inj hok' hok (hn'.trans hn.symm)
  exact ⟨he, hw⟩
theorem civil_at (n : Int) (y m d : Int) (w : World) (hok : okD y m d) (hn : num y m d = n) : Calls Tryd.prog 35 #[.int .i64 n] w (Ret (.tuple #[.int .i64 y, .int .i64 m, .int .i64 d, .int .i64 0]) w) := by
  have hb := num_bd hok
  exact (civil_any n w (by omega) (by omega)).mono fun _ _ h => RetC.at hok hn h
theorem rcivil_at (n : Int) (y m d : Int) (w : World) (hok : okD y m d) (hn : num y m d = n) : Calls Tryd.prog 43 #[.int .i64 n] w (Ret (.tuple #[.int .i64 y, .int .i64 m, .int .i64 d, .int .i64 0]) w) := by
  have hb := num_bd hok
  exact (rcivil_any n w (by omega) (by omega)).mono fun _ _ h => RetC.at hok hn h
theorem civ_both (n : Int) (w : World) : ∃ y m d : Int, ∃ c : Nat,
    Calls Tryd.prog 35 #[.int .i64 n] w (Ret (.tuple #[.int .i64 y, .int .i64 m, .int .i64 d, .int .i64 (c : Int)]) w)
    ∧ Calls Tryd.prog 43 #[.int .i64 n] w (Ret (.tuple #[.int .i64 y, .int .i64 m, .int .i64 d, .int .i64 (c : Int)]) w) := by
  by_cases h : -719162 ≤ n ∧ n ≤ 2932896
  · obtain ⟨y, m, d, hok, hn⟩ := day_of n h.1 h.2
    exact ⟨y, m, d, 0, civil_at n y m d w hok hn, rcivil_at n y m d w hok hn⟩
  · have h' : n < -719162 ∨ 2932896 < n := by omega
    exact ⟨0, 0, 0, 4, civil_out n w h', rcivil_out n w h'⟩
end Go.Proofs.YtidlemedkjkmdaaDoor
