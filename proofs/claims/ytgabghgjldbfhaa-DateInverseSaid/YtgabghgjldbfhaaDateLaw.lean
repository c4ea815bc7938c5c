/- Statements of layer 4 on numbers of days, each out of the contracts. -/
import Derived.Test.YtgabghgjldbfhaaDateW3
namespace Go.Proofs.Ytgabghgjldbfhaa
open Go.RowKit Go.VB Go.DT Go.ChangeShapes Go.WideShapes Go.ChangeAt
open Go.ChangeMaps (open_string)
set_option linter.constructorNameAsVariable false
theorem Try.own : ownKnob Try.prog.godebug = none := by kernel_rfl
theorem Try.laidOut : laidOutB Try.prog = true := by kernel_rfl
theorem days_at (y m d : Int) (n : Int) (c : Nat) (w : World) (hn : dn y m d = n) (hc : dc y m d = c) : Calls Try.prog 12 #[.int .i64 y, .int .i64 m, .int .i64 d] w (Ret (.tuple #[.int .i64 n, .int .i64 (c : Int)]) w) := by
  subst hn; subst hc; exact days_any y m d w
set_option maxRecDepth 100000 in
set_option maxHeartbeats 400000 in
theorem awake4_any (w : World) : Calls Try.prog 15 #[] w (Ret (.bool true) w) := by
  have hs := Lib.hid (days_at 1970 1 2 1 0 w (by decide) (by decide))
  go_enter Try.func15, Try.ntmps15
  go_wp2_with (go_at_call 12; refine hs.out.mono ?_; rintro e w' ⟨rfl, rfl⟩)
  go_ret
  exact Ret.mk rfl
/-- The day that the law's helper takes. -/
def dayN (v : Int) : Int := -719162 + pickN v 3652059
theorem dayN_bd (v : Int) : -719162 ≤ dayN v ∧ dayN v ≤ 2932896 := by
  have := pickN_bd v (n := 3652059) (by decide)
  unfold dayN; omega
set_option maxRecDepth 100000 in
set_option maxHeartbeats 400000 in
theorem day_any (v : Int) (w : World) (hv : (Lit.int .i64 v).wf = true) : Calls Try.prog 19 #[.int .i64 v] w (Ret (.int .i64 (dayN v)) w) := by
  have hs := Lib.hid (pick_at v 3652059 w hv (by decide) (by decide))
  have hb := pickN_bd v (n := 3652059) (by decide)
  have hd : dayN v = -719162 + pickN v 3652059 := rfl
  generalize pickN v 3652059 = p at *
  generalize dayN v = q at *
  have HD := Lib.hid hd; clear hd
  go_enter Try.func19, Try.ntmps19
  go_wp2_with (go_at_call 14; refine hs.out.mono ?_; rintro e w' ⟨rfl, rfl⟩)
  go_ret
  exact Ret.mk (vint HD.out.symm)
theorem beq_self {a b : Int} (h : a = b) : (a == b) = true := by rw [h]; exact beq_self_eq_true _

set_option maxRecDepth 100000 in
set_option maxHeartbeats 4000000 in
theorem dateExamples_lifted (os : Os) (started : os.Started) (H : Type) (enc : TypeId × Value → H) :
    ReturnsInHanded {} Try.checked os 3 .any (Rows.dateExamplesSpec.pre6 enc Try.prog Try.f3 Rows.dateExamplesRow.domain false) (Rows.dateExamplesSpec.post enc Try.prog Try.f3 false true false false) := by
  refine law_lifted (C := Try.checked) (tb := 4) started Try.own Try.laidOut (by kernel_rfl) Try.func3
    (ChangeSpec.witness6 (enc := enc) (C := Try.checked) false ⟨#[], #[], []⟩ 8 (by kernel_rfl) (by kernel_rfl) (by kernel_rfl) (by kernel_rfl))
    rfl rfl Try.underlying4 (by kernel_rfl) (fun ds h => ?_) (fun W base args ds p hval0 hA0 hsz0 hlt => ?_)
  · have h' : ds.length = Try.f3.params.toList.length := h
    rw [Try.params3] at h'
    match ds, h' with
    | [], _ => rfl
  · have hval : ∀ (j : Nat) t v, Try.f3.params[j]? = some t → args[j]? = some v → Value.okWide Try.prog W .any base t v := hval0
    have hA : DataW.TrodAll enc Try.prog W 0 (fun _ => true) true Try.f3.params.toList args.toList ds p := hA0
    have hsz : (DataW.weightsEach Try.prog Try.f3.params.toList ds).all (· ≤ reachBytes) = true := hsz0
    rw [Try.params3] at hA hval hsz
    clear hA0 hval0 hsz0
    obtain ⟨hargs, rfl, rfl⟩ := trodAll_nil hA
    obtain rfl : args = #[] := by cases args; simp_all
    change Calls Try.prog 3 #[] W (RetB (.bool true) W)
    have hs1 := Lib.hid (days_at 2000 2 29 11016 0 W (by decide) (by decide))
    have hs2 := Lib.hid (civil_any (-1) W (by decide) (by decide))
    have hs3 := Lib.hid (days_at 1 1 1 (-719162) 0 W (by decide) (by decide))
    go_enter Try.func3, Try.ntmps3
    go_wp2_with fail
    refine hs1.out.mono ?_
    rintro e w1 ⟨rfl, rfl⟩
    go_wp2_with fail
    refine hs2.out.mono ?_
    rintro e w1 ⟨rfl, y, m, d, rfl, hok, hnum⟩
    obtain ⟨rfl, rfl, rfl⟩ := num_inj hok (y' := 1969) (m' := 12) (d' := 31) (by decide) (hnum.trans (by decide))
    clear hok hnum
    go_wp2_with fail
    refine hs3.out.mono ?_
    rintro e w1 ⟨rfl, rfl⟩
    go_wp2
    go_ret
    exact RetB.mk rfl (Below.refl _ _)
theorem dateExamples_holds : Rows.DateExamplesSaid :=
  OpenClaim.holds_of_wide 3 Try.f3 rfl rfl rfl rfl rfl rfl rfl ⟨rfl, rfl, rfl, rfl, rfl⟩ rfl rfl rfl rfl rfl (by kernel_rfl) Try.func3 (by kernel_rfl)
    (of_decide_eq_true (by kernel_rfl)) (by unfold Func.isWrapper; first | (rw [if_pos (by decide +kernel)]; kernel_rfl) | (rw [if_neg (by decide +kernel)]; exact ⟨rfl, rfl⟩))
    (fun os started H enc _ => dateExamples_lifted os started H enc)

set_option maxRecDepth 100000 in
set_option maxHeartbeats 4000000 in
theorem dateLeap_lifted (os : Os) (started : os.Started) (H : Type) (enc : TypeId × Value → H) :
    ReturnsInHanded {} Try.checked os 4 .any (Rows.dateLeapSpec.pre6 enc Try.prog Try.f4 Rows.dateLeapRow.domain false) (Rows.dateLeapSpec.post enc Try.prog Try.f4 false true false false) := by
  refine law_lifted (C := Try.checked) (tb := 4) started Try.own Try.laidOut (by kernel_rfl) Try.func4
    (ChangeSpec.witness6 (enc := enc) (C := Try.checked) false ⟨#[], #[.int .i64 0], []⟩ 8 (by kernel_rfl) (by kernel_rfl) (by kernel_rfl) (by kernel_rfl))
    rfl rfl Try.underlying4 (by kernel_rfl) (fun ds h => ?_) (fun W base args ds p hval0 hA0 hsz0 hlt => ?_)
  · have h' : ds.length = Try.f4.params.toList.length := h
    rw [Try.params4] at h'
    match ds, h' with
    | [_], _ => rfl
  · have hval : ∀ (j : Nat) t v, Try.f4.params[j]? = some t → args[j]? = some v → Value.okWide Try.prog W .any base t v := hval0
    have hA : DataW.TrodAll enc Try.prog W 0 (fun _ => true) true Try.f4.params.toList args.toList ds p := hA0
    have hsz : (DataW.weightsEach Try.prog Try.f4.params.toList ds).all (· ≤ reachBytes) = true := hsz0
    rw [Try.params4] at hA hval hsz
    clear hA0 hval0 hsz0
    obtain ⟨v0, vs0, d0, ds0, p0, q0, hargs, rfl, rfl, h0, r0⟩ := trodAll_cons hA
    obtain ⟨rfl, rfl, rfl⟩ := trodAll_nil r0
    obtain rfl : args = #[v0] := by cases args; simp_all
    obtain ⟨y, rfl, rfl, rfl, wy⟩ := open_int Try.underlying3 (hval 0 3 v0 rfl rfl) h0
    change Calls Try.prog 4 #[.int .i64 y] W (RetB (.bool true) W)
    have hb := pickN_bd y (n := 20000) (by decide)
    have hs := Lib.hid (pick_at y 20000 W wy (by decide) (by decide))
    have ha := Lib.hid (awake4_any W)
    have h1 := Lib.hid (leap_any y W)
    have h2 := Lib.hid (rleap_any y W)
    have h3 := Lib.hid (leap_any (pickN y 20000 - 5000) W)
    have h4 := Lib.hid (rleap_any (pickN y 20000 - 5000) W)
    generalize pickN y 20000 = p at *
    have e1 := beq_self_eq_true (lp y)
    have e2 := beq_self_eq_true (lp (p - 5000))
    generalize lp y = b1 at *
    generalize lp (p - 5000) = b2 at *
    go_enter Try.func4, Try.ntmps4
    go_wp2_with (first
      | (go_at_call 14; refine hs.out.mono ?_; rintro e w' ⟨rfl, rfl⟩)
      | (go_at_call 15; refine ha.out.mono ?_; rintro e w' ⟨rfl, rfl⟩)
      | (go_at_call 16; (with_reducible refine h1.out.mono ?_); rintro e w' ⟨rfl, rfl⟩)
      | (go_at_call 17; (with_reducible refine h2.out.mono ?_); rintro e w' ⟨rfl, rfl⟩)
      | (go_at_call 16; (with_reducible refine h3.out.mono ?_); rintro e w' ⟨rfl, rfl⟩)
      | (go_at_call 17; (with_reducible refine h4.out.mono ?_); rintro e w' ⟨rfl, rfl⟩))
    go_ret
    exact RetB.mk rfl (Below.refl _ _)
theorem dateLeap_holds : Rows.DateLeapSaid :=
  OpenClaim.holds_of_wide 4 Try.f4 rfl rfl rfl rfl rfl rfl rfl ⟨rfl, rfl, rfl, rfl, rfl⟩ rfl rfl rfl rfl rfl (by kernel_rfl) Try.func4 (by kernel_rfl)
    (of_decide_eq_true (by kernel_rfl)) (by unfold Func.isWrapper; first | (rw [if_pos (by decide +kernel)]; kernel_rfl) | (rw [if_neg (by decide +kernel)]; exact ⟨rfl, rfl⟩))
    (fun os started H enc _ => dateLeap_lifted os started H enc)

set_option maxRecDepth 100000 in
set_option maxHeartbeats 4000000 in
theorem dateDays_lifted (os : Os) (started : os.Started) (H : Type) (enc : TypeId × Value → H) :
    ReturnsInHanded {} Try.checked os 5 .any (Rows.dateDaysSpec.pre6 enc Try.prog Try.f5 Rows.dateDaysRow.domain false) (Rows.dateDaysSpec.post enc Try.prog Try.f5 false true false false) := by
  refine law_lifted (C := Try.checked) (tb := 4) started Try.own Try.laidOut (by kernel_rfl) Try.func5
    (ChangeSpec.witness6 (enc := enc) (C := Try.checked) false ⟨#[], #[.int .i64 0, .int .i64 0, .int .i64 0], []⟩ 8 (by kernel_rfl) (by kernel_rfl) (by kernel_rfl) (by kernel_rfl))
    rfl rfl Try.underlying4 (by kernel_rfl) (fun ds h => ?_) (fun W base args ds p hval0 hA0 hsz0 hlt => ?_)
  · have h' : ds.length = Try.f5.params.toList.length := h
    rw [Try.params5] at h'
    match ds, h' with
    | [_, _, _], _ => rfl
  · have hval : ∀ (j : Nat) t v, Try.f5.params[j]? = some t → args[j]? = some v → Value.okWide Try.prog W .any base t v := hval0
    have hA : DataW.TrodAll enc Try.prog W 0 (fun _ => true) true Try.f5.params.toList args.toList ds p := hA0
    have hsz : (DataW.weightsEach Try.prog Try.f5.params.toList ds).all (· ≤ reachBytes) = true := hsz0
    rw [Try.params5] at hA hval hsz
    clear hA0 hval0 hsz0
    obtain ⟨v0, vs0, d0, ds0, p0, q0, hargs, rfl, rfl, h0, r0⟩ := trodAll_cons hA
    obtain ⟨v1, vs1, d1, ds1, p1, q1, rfl, rfl, rfl, h1, r1⟩ := trodAll_cons r0
    obtain ⟨v2, vs2, d2, ds2, p2, q2, rfl, rfl, rfl, h2, r2⟩ := trodAll_cons r1
    obtain ⟨rfl, rfl, rfl⟩ := trodAll_nil r2
    obtain rfl : args = #[v0, v1, v2] := by cases args; simp_all
    obtain ⟨y, rfl, rfl, rfl, wy⟩ := open_int Try.underlying3 (hval 0 3 v0 rfl rfl) h0
    obtain ⟨m, rfl, rfl, rfl, wm⟩ := open_int Try.underlying3 (hval 1 3 v1 rfl rfl) h1
    obtain ⟨d, rfl, rfl, rfl, wd⟩ := open_int Try.underlying3 (hval 2 3 v2 rfl rfl) h2
    change Calls Try.prog 5 #[.int .i64 y, .int .i64 m, .int .i64 d] W (RetB (.bool true) W)
    have hb1 := pickN_bd y (n := 10003) (by decide)
    have hb2 := pickN_bd m (n := 15) (by decide)
    have hb3 := pickN_bd d (n := 34) (by decide)
    have hs1 := Lib.hid (pick_at y 10003 W wy (by decide) (by decide))
    have hs2 := Lib.hid (pick_at m 15 W wm (by decide) (by decide))
    have hs3 := Lib.hid (pick_at d 34 W wd (by decide) (by decide))
    have ha := Lib.hid (awake4_any W)
    generalize pickN y 10003 = p at *
    generalize pickN m 15 = q at *
    generalize pickN d 34 = r at *
    have h1 := Lib.hid (days_any y m d W)
    have h2 := Lib.hid (rdays_any y m d W)
    have h3 := Lib.hid (days_any (p - 1) (q - 1) (r - 1) W)
    have h4 := Lib.hid (rdays_any (p - 1) (q - 1) (r - 1) W)
    generalize dn y m d = n1 at *
    generalize dc y m d = c1 at *
    generalize dn (p - 1) (q - 1) (r - 1) = n2 at *
    generalize dc (p - 1) (q - 1) (r - 1) = c2 at *
    go_enter Try.func5, Try.ntmps5
    go_wp2_with (first
      | (go_at_call 14; (with_reducible refine hs1.out.mono ?_); rintro e w' ⟨rfl, rfl⟩)
      | (go_at_call 14; (with_reducible refine hs2.out.mono ?_); rintro e w' ⟨rfl, rfl⟩)
      | (go_at_call 14; (with_reducible refine hs3.out.mono ?_); rintro e w' ⟨rfl, rfl⟩)
      | (go_at_call 15; refine ha.out.mono ?_; rintro e w' ⟨rfl, rfl⟩)
      | (go_at_call 12; (with_reducible refine h1.out.mono ?_); rintro e w' ⟨rfl, rfl⟩)
      | (go_at_call 18; (with_reducible refine h2.out.mono ?_); rintro e w' ⟨rfl, rfl⟩)
      | (go_at_call 12; (with_reducible refine h3.out.mono ?_); rintro e w' ⟨rfl, rfl⟩)
      | (go_at_call 18; (with_reducible refine h4.out.mono ?_); rintro e w' ⟨rfl, rfl⟩))
    go_ret
    exact RetB.mk rfl (Below.refl _ _)
theorem dateDays_holds : Rows.DateDaysSaid :=
  OpenClaim.holds_of_wide 5 Try.f5 rfl rfl rfl rfl rfl rfl rfl ⟨rfl, rfl, rfl, rfl, rfl⟩ rfl rfl rfl rfl rfl (by kernel_rfl) Try.func5 (by kernel_rfl)
    (of_decide_eq_true (by kernel_rfl)) (by unfold Func.isWrapper; first | (rw [if_pos (by decide +kernel)]; kernel_rfl) | (rw [if_neg (by decide +kernel)]; exact ⟨rfl, rfl⟩))
    (fun os started H enc _ => dateDays_lifted os started H enc)

set_option maxRecDepth 100000 in
set_option maxHeartbeats 4000000 in
theorem dateInverse_lifted (os : Os) (started : os.Started) (H : Type) (enc : TypeId × Value → H) :
    ReturnsInHanded {} Try.checked os 7 .any (Rows.dateInverseSpec.pre6 enc Try.prog Try.f7 Rows.dateInverseRow.domain false) (Rows.dateInverseSpec.post enc Try.prog Try.f7 false true false false) := by
  refine law_lifted (C := Try.checked) (tb := 4) started Try.own Try.laidOut (by kernel_rfl) Try.func7
    (ChangeSpec.witness6 (enc := enc) (C := Try.checked) false ⟨#[], #[.int .i64 0], []⟩ 8 (by kernel_rfl) (by kernel_rfl) (by kernel_rfl) (by kernel_rfl))
    rfl rfl Try.underlying4 (by kernel_rfl) (fun ds h => ?_) (fun W base args ds p hval0 hA0 hsz0 hlt => ?_)
  · have h' : ds.length = Try.f7.params.toList.length := h
    rw [Try.params7] at h'
    match ds, h' with
    | [_], _ => rfl
  · have hval : ∀ (j : Nat) t v, Try.f7.params[j]? = some t → args[j]? = some v → Value.okWide Try.prog W .any base t v := hval0
    have hA : DataW.TrodAll enc Try.prog W 0 (fun _ => true) true Try.f7.params.toList args.toList ds p := hA0
    have hsz : (DataW.weightsEach Try.prog Try.f7.params.toList ds).all (· ≤ reachBytes) = true := hsz0
    rw [Try.params7] at hA hval hsz
    clear hA0 hval0 hsz0
    obtain ⟨v0, vs0, d0, ds0, p0, q0, hargs, rfl, rfl, h0, r0⟩ := trodAll_cons hA
    obtain ⟨rfl, rfl, rfl⟩ := trodAll_nil r0
    obtain rfl : args = #[v0] := by cases args; simp_all
    obtain ⟨n, rfl, rfl, rfl, wn⟩ := open_int Try.underlying3 (hval 0 3 v0 rfl rfl) h0
    change Calls Try.prog 7 #[.int .i64 n] W (RetB (.bool true) W)
    have hs := Lib.hid (day_any n W wn)
    have ha := Lib.hid (awake4_any W)
    have hb := dayN_bd n
    generalize dayN n = k at *
    have h1 := Lib.hid (civil_any k W hb.1 hb.2)
    go_enter Try.func7, Try.ntmps7
    go_wp2_with (first
      | (go_at_call 19; refine hs.out.mono ?_; rintro e w' ⟨rfl, rfl⟩)
      | (go_at_call 13; refine h1.out.mono ?_; rintro e w' ⟨rfl, y, m, d, rfl, hok, hnum⟩))
    have h2 := Lib.hid (days_at y m d k 0 W ((dn_in hok).trans hnum) (dc_in hok))
    clear hok hnum
    go_wp2_with (first
      | (go_at_call 12; refine h2.out.mono ?_; rintro e w' ⟨rfl, rfl⟩)
      | (go_at_call 15; refine ha.out.mono ?_; rintro e w' ⟨rfl, rfl⟩))
    go_ret
    exact RetB.mk rfl (Below.refl _ _)
theorem dateInverse_holds : Rows.DateInverseSaid :=
  OpenClaim.holds_of_wide 7 Try.f7 rfl rfl rfl rfl rfl rfl rfl ⟨rfl, rfl, rfl, rfl, rfl⟩ rfl rfl rfl rfl rfl (by kernel_rfl) Try.func7 (by kernel_rfl)
    (of_decide_eq_true (by kernel_rfl)) (by unfold Func.isWrapper; first | (rw [if_pos (by decide +kernel)]; kernel_rfl) | (rw [if_neg (by decide +kernel)]; exact ⟨rfl, rfl⟩))
    (fun os started H enc _ => dateInverse_lifted os started H enc)
end Go.Proofs.Ytgabghgjldbfhaa
