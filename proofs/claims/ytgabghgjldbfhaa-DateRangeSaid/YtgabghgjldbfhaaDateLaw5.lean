/- Statements of layer 4 on the texts of days, each out of the contracts. -/
import Derived.Test.YtgabghgjldbfhaaDateLaw
import Derived.Test.YtgabghgjldbfhaaDateW5
import Derived.Test.YtgabghgjldbfhaaDateW7
namespace Go.Proofs.Ytgabghgjldbfhaa
open Go.RowKit Go.VB Go.DT Go.ChangeShapes Go.WideShapes Go.ChangeAt
open Go.ChangeMaps (open_string)
set_option linter.constructorNameAsVariable false
/-- A permitted day in whole numbers from 0 on. -/
theorem day_nat (n : Int) (h0 : -719162 ≤ n) (h1 : n ≤ 2932896) : ∃ y m d : Nat, okD (y : Int) (m : Int) (d : Int) ∧ num (y : Int) (m : Int) (d : Int) = n ∧ y < 10000 ∧ m < 100 ∧ d < 100 := by
  obtain ⟨y, m, d, hok, hn⟩ := day_of n h0 h1
  obtain ⟨y1, y2, m1, m2, d1, d2⟩ := id hok
  obtain ⟨y, rfl⟩ := Int.eq_ofNat_of_zero_le (show 0 ≤ y by omega)
  obtain ⟨m, rfl⟩ := Int.eq_ofNat_of_zero_le (show 0 ≤ m by omega)
  obtain ⟨d, rfl⟩ := Int.eq_ofNat_of_zero_le (show 0 ≤ d by omega)
  have := dim_bd (y : Int) (m : Int)
  exact ⟨y, m, d, hok, hn, by omega, by omega, by omega⟩
theorem pn_txt (y m d : Nat) (hy : y < 10000) (hm : m < 100) (hd : d < 100) (hok : okD (y : Int) (m : Int) (d : Int)) : pn (str (by8 (txt y m d))) = num (y : Int) (m : Int) (d : Int) := by
  rw [pn_in (txt_form y m d), txt_y y m d hy, txt_m y m d hm, txt_d y m d hd, dn_in hok]
theorem pc_txt (y m d : Nat) (hy : y < 10000) (hm : m < 100) (hd : d < 100) (hok : okD (y : Int) (m : Int) (d : Int)) : pc (str (by8 (txt y m d))) = 0 := by
  rw [pc_in (txt_form y m d), txt_y y m d hy, txt_m y m d hm, txt_d y m d hd, dc_in hok]
set_option maxRecDepth 100000 in
set_option maxHeartbeats 4000000 in
theorem dateRange_lifted (os : Os) (started : os.Started) (H : Type) (enc : TypeId × Value → H) :
    ReturnsInHanded {} Try.checked os 11 .any (Rows.dateRangeSpec.pre6 enc Try.prog Try.f11 Rows.dateRangeRow.domain false) (Rows.dateRangeSpec.post enc Try.prog Try.f11 false true false false) := by
  refine law_lifted (C := Try.checked) (tb := 4) started Try.own Try.laidOut (by kernel_rfl) Try.func11
    (ChangeSpec.witness6 (enc := enc) (C := Try.checked) false ⟨#[], #[.int .i64 0], []⟩ 8 (by kernel_rfl) (by kernel_rfl) (by kernel_rfl) (by kernel_rfl))
    rfl rfl Try.underlying4 (by kernel_rfl) (fun ds h => ?_) (fun W base args ds p hval0 hA0 hsz0 hlt => ?_)
  · have h' : ds.length = Try.f11.params.toList.length := h
    rw [Try.params11] at h'
    match ds, h' with
    | [_], _ => rfl
  · have hval : ∀ (j : Nat) t v, Try.f11.params[j]? = some t → args[j]? = some v → Value.okWide Try.prog W .any base t v := hval0
    have hA : DataW.TrodAll enc Try.prog W 0 (fun _ => true) true Try.f11.params.toList args.toList ds p := hA0
    have hsz : (DataW.weightsEach Try.prog Try.f11.params.toList ds).all (· ≤ reachBytes) = true := hsz0
    rw [Try.params11] at hA hval hsz
    clear hA0 hval0 hsz0
    obtain ⟨v0, vs0, d0, ds0, p0, q0, hargs, rfl, rfl, h0, r0⟩ := trodAll_cons hA
    obtain ⟨rfl, rfl, rfl⟩ := trodAll_nil r0
    obtain rfl : args = #[v0] := by cases args; simp_all
    obtain ⟨n, rfl, rfl, rfl, wn⟩ := open_int Try.underlying3 (hval 0 3 v0 rfl rfl) h0
    change Calls Try.prog 11 #[.int .i64 n] W (RetB (.bool true) W)
    have ha := fun w => Lib.hid (awake4_any w)
    by_cases hr : -719162 ≤ n ∧ n ≤ 2932896
    · obtain ⟨y, m, d, hok, hn, hy, hm, hd⟩ := day_nat n hr.1 hr.2
      have hF := Lib.hid (format_at n y m d W hok hn)
      have hz := txt_size y m d
      have h0 := hr.1
      have h1 := hr.2
      clear hok hn hr
      generalize str (by8 (txt y m d)) = T at *
      have hz1 : ((T.size : Int) == 10) = true := by rw [hz]; rfl
      clear hz
      go_enter Try.func11, Try.ntmps11
      go_wp2_with fail
      refine hF.out.mono ?_
      rintro e w1 ⟨rfl, b1⟩
      go_wp2_with (go_at_call 15; refine (ha _).out.mono ?_; rintro e w' ⟨rfl, rfl⟩)
      go_ret
      exact RetB.mk rfl b1
    · have hr' : n < -719162 ∨ 2932896 < n := by omega
      have hF := Lib.hid (format_out n W hr')
      have hC := fun w => Lib.hid (civil_out n w hr')
      by_cases h1 : n < -719162
      · clear hr hr'
        go_enter Try.func11, Try.ntmps11
        go_wp2_with fail
        refine hF.out.mono ?_
        rintro e w1 ⟨rfl, b1⟩
        go_wp2_with (first
          | (go_at_call 15; refine (ha _).out.mono ?_; rintro e w' ⟨rfl, rfl⟩)
          | (go_at_call 13; refine (hC _).out.mono ?_; rintro e w' ⟨rfl, rfl⟩))
        go_ret
        exact RetB.mk rfl b1
      · have h2 : 2932896 < n := by omega
        clear hr hr'
        go_enter Try.func11, Try.ntmps11
        go_wp2_with fail
        refine hF.out.mono ?_
        rintro e w1 ⟨rfl, b1⟩
        go_wp2_with (first
          | (go_at_call 15; refine (ha _).out.mono ?_; rintro e w' ⟨rfl, rfl⟩)
          | (go_at_call 13; refine (hC _).out.mono ?_; rintro e w' ⟨rfl, rfl⟩))
        go_ret
        exact RetB.mk rfl b1
theorem dateRange_holds : Rows.DateRangeSaid :=
  OpenClaim.holds_of_wide 11 Try.f11 rfl rfl rfl rfl rfl rfl rfl ⟨rfl, rfl, rfl, rfl, rfl⟩ rfl rfl rfl rfl rfl (by kernel_rfl) Try.func11 (by kernel_rfl)
    (of_decide_eq_true (by kernel_rfl)) (by unfold Func.isWrapper; first | (rw [if_pos (by decide +kernel)]; kernel_rfl) | (rw [if_neg (by decide +kernel)]; exact ⟨rfl, rfl⟩))
    (fun os started H enc _ => dateRange_lifted os started H enc)

set_option maxRecDepth 100000 in
set_option maxHeartbeats 4000000 in
theorem dateRoundTrip_lifted (os : Os) (started : os.Started) (H : Type) (enc : TypeId × Value → H) :
    ReturnsInHanded {} Try.checked os 10 .any (Rows.dateRoundTripSpec.pre6 enc Try.prog Try.f10 Rows.dateRoundTripRow.domain false) (Rows.dateRoundTripSpec.post enc Try.prog Try.f10 false true false false) := by
  refine law_lifted (C := Try.checked) (tb := 4) started Try.own Try.laidOut (by kernel_rfl) Try.func10
    (ChangeSpec.witness6 (enc := enc) (C := Try.checked) false ⟨#[], #[.int .i64 0, .int .i64 0], []⟩ 8 (by kernel_rfl) (by kernel_rfl) (by kernel_rfl) (by kernel_rfl))
    rfl rfl Try.underlying4 (by kernel_rfl) (fun ds h => ?_) (fun W base args ds p hval0 hA0 hsz0 hlt => ?_)
  · have h' : ds.length = Try.f10.params.toList.length := h
    rw [Try.params10] at h'
    match ds, h' with
    | [_, _], _ => rfl
  · have hval : ∀ (j : Nat) t v, Try.f10.params[j]? = some t → args[j]? = some v → Value.okWide Try.prog W .any base t v := hval0
    have hA : DataW.TrodAll enc Try.prog W 0 (fun _ => true) true Try.f10.params.toList args.toList ds p := hA0
    have hsz : (DataW.weightsEach Try.prog Try.f10.params.toList ds).all (· ≤ reachBytes) = true := hsz0
    rw [Try.params10] at hA hval hsz
    clear hA0 hval0 hsz0
    obtain ⟨v0, vs0, d0, ds0, p0, q0, hargs, rfl, rfl, h0, r0⟩ := trodAll_cons hA
    obtain ⟨v1, vs1, d1, ds1, p1, q1, rfl, rfl, rfl, h1, r1⟩ := trodAll_cons r0
    obtain ⟨rfl, rfl, rfl⟩ := trodAll_nil r1
    obtain rfl : args = #[v0, v1] := by cases args; simp_all
    obtain ⟨n, rfl, rfl, rfl, wn⟩ := open_int Try.underlying3 (hval 0 3 v0 rfl rfl) h0
    obtain ⟨m, rfl, rfl, rfl, wm⟩ := open_int Try.underlying3 (hval 1 3 v1 rfl rfl) h1
    change Calls Try.prog 10 #[.int .i64 n, .int .i64 m] W (RetB (.bool true) W)
    have ha := fun w => Lib.hid (awake4_any w)
    have hs1 := Lib.hid (day_any n W wn)
    have hs2 := Lib.hid (day_any m W wm)
    have hb1 := dayN_bd n
    have hb2 := dayN_bd m
    generalize dayN n = k at *
    generalize dayN m = q at *
    obtain ⟨y, mo, d, hok, hn, hy, hm, hd⟩ := day_nat k hb1.1 hb1.2
    obtain ⟨y', mo', d', hok', hn', hy', hm', hd'⟩ := day_nat q hb2.1 hb2.2
    have hl := less_strs y mo d y' mo' d' hy hm hd hy' hm' hd'
    have hiff := num_iff hok hok'
    rw [hn, hn'] at hiff
    have hl2 : Go.Op.bytesLess (str (by8 (txt y mo d))).toList (str (by8 (txt y' mo' d'))).toList = decide (k < q) := by
      rw [hl, Bool.eq_iff_iff, decide_eq_true_iff, decide_eq_true_iff]; exact hiff.symm
    have HL := Lib.hid hl2
    have hF1 := fun w => Lib.hid (format_at k y mo d w hok hn)
    have hF2 := fun w => Lib.hid (format_at q y' mo' d' w hok' hn')
    have hz := txt_size y mo d
    have hP := fun w => parse_any (str (by8 (txt y mo d))) w (by omega)
    rw [pn_txt y mo d hy hm hd hok, pc_txt y mo d hy hm hd hok, hn] at hP
    have HP := fun w => Lib.hid (hP w)
    clear hok hok' hn hn' hl hiff hl2 hz hP hy hm hd hy' hm' hd'
    generalize str (by8 (txt y mo d)) = T at *
    generalize str (by8 (txt y' mo' d')) = T' at *
    go_enter Try.func10, Try.ntmps10
    go_wp2_with (first
      | (go_at_call 19; (with_reducible refine hs1.out.mono ?_); rintro e w' ⟨rfl, rfl⟩)
      | (go_at_call 19; (with_reducible refine hs2.out.mono ?_); rintro e w' ⟨rfl, rfl⟩))
    refine (hF1 _).out.mono ?_
    rintro e w1 ⟨rfl, b1⟩
    go_wp2_with fail
    refine (hF2 _).out.mono ?_
    rintro e w2 ⟨rfl, b2⟩
    go_wp2_with fail
    refine (HP _).out.mono ?_
    rintro e w3 ⟨rfl, b3⟩
    go_wp2_with (go_at_call 15; refine (ha _).out.mono ?_; rintro e w' ⟨rfl, rfl⟩)
    go_ret
    exact RetB.mk (congrArg Value.bool (by rw [HL.out]; exact beq_self_eq_true _)) (bel_trans (bel_trans b1 b2) b3)
theorem dateRoundTrip_holds : Rows.DateRoundTripSaid :=
  OpenClaim.holds_of_wide 10 Try.f10 rfl rfl rfl rfl rfl rfl rfl ⟨rfl, rfl, rfl, rfl, rfl⟩ rfl rfl rfl rfl rfl (by kernel_rfl) Try.func10 (by kernel_rfl)
    (of_decide_eq_true (by kernel_rfl)) (by unfold Func.isWrapper; first | (rw [if_pos (by decide +kernel)]; kernel_rfl) | (rw [if_neg (by decide +kernel)]; exact ⟨rfl, rfl⟩))
    (fun os started H enc _ => dateRoundTrip_lifted os started H enc)
end Go.Proofs.Ytgabghgjldbfhaa
