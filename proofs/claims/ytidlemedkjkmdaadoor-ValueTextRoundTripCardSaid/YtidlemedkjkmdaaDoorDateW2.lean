/- The walks over package date and its reference: the year of a day, the number of a day, and the day of a number. -/
import Derived.Test.YtidlemedkjkmdaaDoorDateW1
namespace Go.DT
open Go.VB
theorem dby_inv {y z : Int} (h : dby y < dby z) : y < z := Int.lt_of_not_ge fun hge => by
  have := dby_mono hge; omega
theorem results_tmp4 {fn : Func} {t u v x : Tmp} {P : Program} (h : fn.results = #[.tmp t, .tmp u, .tmp v, .tmp x]) (tmps : Array Value) (w : World) :
    (results fn tmps).run P w = .ok (.tuple #[tmps.getD t undef, tmps.getD u undef, tmps.getD v undef, tmps.getD x undef]) w := by
  simp [results, h]
/-- It returns a year whose days hold day n, counted from 0; the world is as it was. -/
def RetY (n : Int) (w : World) : Ending → World → Prop := fun e w' => w = w' ∧ ∃ y : Int, e = .returned (.int .i64 y) ∧ 1 ≤ y ∧ y ≤ 9999 ∧ dby y ≤ n ∧ n < dby y + diy y
/-- It returns the day with number n; the world is as it was. -/
def RetC (n : Int) (w : World) : Ending → World → Prop := fun e w' => w = w' ∧ ∃ y m d : Int, e = .returned (.tuple #[.int .i64 y, .int .i64 m, .int .i64 d, .int .i64 0]) ∧ okD y m d ∧ num y m d = n
theorem RetC.mk {n : Int} {w : World} {y m d y' m' d' : Int} (hy : y' = y) (hm : m' = m) (hd : d' = d) (h : okD y m d ∧ num y m d = n) : RetC n w (.returned (.tuple #[.int .i64 y', .int .i64 m', .int .i64 d', .int .i64 0])) w := by
  subst hy; subst hm; subst hd; exact ⟨rfl, _, _, _, rfl, h⟩
theorem dn_in {y m d : Int} (h : okD y m d) : dn y m d = num y m d := if_pos h
theorem dc_in {y m d : Int} (h : okD y m d) : dc y m d = 0 := if_pos h
theorem dn_out {y m d : Int} (h : ¬ okD y m d) : dn y m d = 0 := if_neg h
theorem dc_out {y m d : Int} (h : ¬ okD y m d) : dc y m d = 4 := if_neg h
theorem found {y r : Int} {k : Nat} (h1 : 1 ≤ y) (h2 : y ≤ 9999) (hk : k ≤ 11) (h0 : 0 ≤ r) (hr : r < dim y ((k : Int) + 1)) {n : Int} (hn : r = n + 719162 - dby y - dbm y k) : okD y ((k : Int) + 1) (r + 1) ∧ num y ((k : Int) + 1) (r + 1) = n := by
  refine ⟨⟨h1, h2, by omega, by omega, by omega, by omega⟩, ?_⟩
  unfold num
  rw [show ((k : Int) + 1 - 1).toNat = k from by omega]
  omega
end Go.DT
namespace Go.Proofs.YtidlemedkjkmdaaDoor
open Go.RowKit Go.VB Go.DT
set_option maxRecDepth 100000 in
set_option maxHeartbeats 1000000 in
theorem year_any (n : Int) (w : World) (h0 : 0 ≤ n) (h1 : n < 3652059) : Calls Tryd.prog 55 #[.int .i64 n] w (RetY n w) := by
  go_enter Tryd.func55, Tryd.ntmps55
  go_wp2
  go_loop [3] (fun i => ∃ y : Int, i = .int .i64 y ∧ 1 ≤ y ∧ y ≤ 9999 ∧ dby y ≤ n) (fun i => (10000 - intOf i).toNat)
  case atStart =>
    refine ⟨1 + n / 366, rfl, by omega, by omega, ?_⟩
    have := (dby_bd (y := 1 + n / 366) (by omega)).2
    omega
  case round =>
    obtain ⟨y, rfl, hy1, hy2, hle⟩ := hrel
    have hd := dby_succ y
    have hb := (dby_bd (y := y + 1) (by omega))
    have hs : dby (y + 1) ≤ n → y + 1 ≤ 9999 := fun hle2 => by
      have := dby_inv (y := y + 1) (z := 10000) (by rw [dby_last]; omega)
      omega
    generalize hZ : dby (y + 1) = z at *
    have HZ := Lib.hid hZ; have HS := Lib.hid hs; have HD := Lib.hid hd; clear hZ hs hd
    have hC := Lib.hid (dby_any (y + 1) w (by omega) (by omega))
    by_cases hlt : z ≤ n
    · go_wp2_with (go_at_call 56; refine hC.out.mono ?_; rw [HZ.out]; rintro e w' ⟨rfl, rfl⟩)
      go_round
      case rel => exact ⟨y + 1, by go_num, by omega, HS.out hlt, by rw [HZ.out]; exact hlt⟩
      case measure => simp [intOf] <;> omega
    · go_wp2_with (go_at_call 56; refine hC.out.mono ?_; rw [HZ.out]; rintro e w' ⟨rfl, rfl⟩)
      go_ret
      refine ⟨rfl, y, rfl, hy1, hy2, hle, ?_⟩
      rw [← HD.out]; omega
set_option maxRecDepth 100000 in
set_option maxHeartbeats 1000000 in
theorem days_any (y m d : Int) (w : World) : Calls Tryd.prog 65 #[.int .i64 y, .int .i64 m, .int .i64 d] w (Ret (.tuple #[.int .i64 (dn y m d), .int .i64 (dc y m d : Nat)]) w) := by
  by_cases hok : okD y m d
  · rw [dn_in hok, dc_in hok]
    obtain ⟨h1, h2, h3, h4, h5, h6⟩ := hok
    have hN : num y m d = -719162 + (dby y + d - 1 + dbm y (m - 1).toNat) := rfl
    have HN := Lib.hid hN; clear hN
    have hb := dby_bd h1
    have hJ := Lib.hid (dby_any y w h1 (by omega))
    have hG := fun w => Lib.hid (dim_any y m w)
    have hd := dim_bd y m
    generalize dby y = z at *
    generalize dim y m = q at *
    go_enter Tryd.func65, Tryd.ntmps65
    go_wp2_with (first
      | (go_at_call 57; refine (hG _).out.mono ?_; rintro e w' ⟨rfl, rfl⟩)
      | (go_at_call 56; refine hJ.out.mono ?_; rintro e w' ⟨rfl, rfl⟩))
    go_loop [8, 9] (fun x i => ∃ k : Nat, x = .int .i64 ((z+d-1) + dbm y k) ∧ i = .int .i64 ((k : Int) + 1) ∧ (k : Int) + 1 ≤ m) (fun _ i => (m - intOf i).toNat)
    case atStart => exact ⟨0, by rw [dbm_zero]; go_num, rfl, by omega⟩
    case round =>
      obtain ⟨k, rfl, rfl, hk⟩ := hrel
      have hs := dbm_succ y k
      have hbk := dbm_bd y k
      have hdk := dim_bd y ((k : Int) + 1)
      generalize hx : dbm y k = x at *
      have HX := Lib.hid hx; have HS := Lib.hid hs; clear hx hs
      have hC := Lib.hid (dim_any y ((k : Int) + 1) w)
      by_cases hlt : (k : Int) + 1 < m
      · go_wp2_with (go_at_call 57; refine hC.out.mono ?_; rintro e w' ⟨rfl, rfl⟩)
        go_round
        case rel => exact ⟨k + 1, by rw [HS.out]; go_num, by go_num, by omega⟩
        case measure => simp [intOf] <;> omega
      · have hkm : (m - 1).toNat = k := by omega
        have HK := Lib.hid hkm; clear hkm
        go_wp2
        go_ret2
        refine Ret.mk ?_
        rw [HN.out, HK.out, HX.out]
        go_num
  · rw [dn_out hok, dc_out hok]
    unfold okD at hok
    have hG := fun w => Lib.hid (dim_any y m w)
    have hd := dim_bd y m
    generalize dim y m = q at *
    by_cases h1 : y < 1
    · go_enter Tryd.func65, Tryd.ntmps65
      go_wp2
      go_ret2
      exact Ret.mk rfl
    by_cases h2 : 9999 < y
    · go_enter Tryd.func65, Tryd.ntmps65
      go_wp2
      go_ret2
      exact Ret.mk rfl
    by_cases h3 : m < 1
    · go_enter Tryd.func65, Tryd.ntmps65
      go_wp2
      go_ret2
      exact Ret.mk rfl
    by_cases h4 : 12 < m
    · go_enter Tryd.func65, Tryd.ntmps65
      go_wp2
      go_ret2
      exact Ret.mk rfl
    by_cases h5 : d < 1
    · go_enter Tryd.func65, Tryd.ntmps65
      go_wp2
      go_ret2
      exact Ret.mk rfl
    have h6 : q < d := by omega
    clear hok
    go_enter Tryd.func65, Tryd.ntmps65
    go_wp2_with (go_at_call 57; refine (hG _).out.mono ?_; rintro e w' ⟨rfl, rfl⟩)
    go_ret2
    exact Ret.mk rfl
end Go.Proofs.YtidlemedkjkmdaaDoor
