/- Statements of layer 5 on texts that are written and read, each out of the contracts. -/
import Derived.Test.YtclpgfckcdaefaaDecLaw2
import Derived.Test.YtclpgfckcdaefaaDecW9
import Derived.Test.YtclpgfckcdaefaaDecT2
namespace Go.Proofs.Ytclpgfckcdaefaa
open Go.RowKit Go.VB Go.DT Go.DC Go.ChangeShapes Go.WideShapes Go.ChangeAt
open Go.ChangeMaps (open_string)
set_option linter.constructorNameAsVariable false
theorem parse_at (s : ByteArray) (k n : Int) (c : Nat) (w : World) (zs : s.size ≤ 140737488351232) (hn : PN s k = n) (hc : PC s k = c) : Calls Try.prog 11 #[.string s, .int .i64 k] w (RetB (.tuple #[.int .i64 n, .int .i64 (c : Int)]) w) := by
  subst hn; subst hc; exact dparse_any s k w zs
theorem ft_size {n : Int} {a : Nat} (hn : okN n) (ha : a ≤ 18) : (str (by8 (ft n a))).size ≤ 140737488351232 := by
  have := ft_len (okN_abs.1 hn) ha
  rw [by8_size]; omega

set_option maxRecDepth 100000 in
set_option maxHeartbeats 4000000 in
theorem decimalRoundTrip_lifted (os : Os) (started : os.Started) (H : Type) (enc : TypeId × Value → H) :
    ReturnsInHanded {} Try.checked os 6 .any (Rows.decimalRoundTripSpec.pre6 enc Try.prog Try.f6 Rows.decimalRoundTripRow.domain false) (Rows.decimalRoundTripSpec.post enc Try.prog Try.f6 false true false false) := by
  refine law_lifted (C := Try.checked) (tb := 4) started Try.own Try.laidOut (by kernel_rfl) Try.func6
    (ChangeSpec.witness6 (enc := enc) (C := Try.checked) false ⟨#[], #[.int .i64 0, .int .u8 0, .int .i64 0], []⟩ 8 (by kernel_rfl) (by kernel_rfl) (by kernel_rfl) (by kernel_rfl))
    rfl rfl Try.underlying4 (by kernel_rfl) (fun ds h => ?_) (fun W base args ds p hval0 hA0 hsz0 hlt => ?_)
  · have h' : ds.length = Try.f6.params.toList.length := h
    rw [Try.params6] at h'
    match ds, h' with
    | [_, _, _], _ => rfl
  · have hval : ∀ (j : Nat) t v, Try.f6.params[j]? = some t → args[j]? = some v → Value.okWide Try.prog W .any base t v := hval0
    have hA : DataW.TrodAll enc Try.prog W 0 (fun _ => true) true Try.f6.params.toList args.toList ds p := hA0
    have hsz : (DataW.weightsEach Try.prog Try.f6.params.toList ds).all (· ≤ reachBytes) = true := hsz0
    rw [Try.params6] at hA hval hsz
    clear hA0 hval0 hsz0
    obtain ⟨v0, vs0, d0, ds0, p0, q0, hargs, rfl, rfl, h0, r0⟩ := trodAll_cons hA
    obtain ⟨v1, vs1, d1, ds1, p1, q1, rfl, rfl, rfl, h1, r1⟩ := trodAll_cons r0
    obtain ⟨v2, vs2, d2, ds2, p2, q2, rfl, rfl, rfl, h2, r2⟩ := trodAll_cons r1
    obtain ⟨rfl, rfl, rfl⟩ := trodAll_nil r2
    obtain rfl : args = #[v0, v1, v2] := by cases args; simp_all
    obtain ⟨n, rfl, rfl, rfl, wn⟩ := open_int Try.underlying2 (hval 0 2 v0 rfl rfl) h0
    obtain ⟨s, rfl, rfl, rfl, ws⟩ := open_int Try.underlying5 (hval 1 5 v1 rfl rfl) h1
    obtain ⟨k, rfl, rfl, rfl, wk⟩ := open_int Try.underlying3 (hval 2 3 v2 rfl rfl) h2
    change Calls Try.prog 6 #[.int .i64 n, .int .u8 s, .int .i64 k] W (RetB (.bool true) W)
    have ha := fun w => Lib.hid (awake5_any w)
    have hnum := Lib.hid (number5_any n s W wn ws)
    obtain ⟨K, hK19, hp⟩ := pick_as k 19 W wk (by decide) (by decide)
    have hK : K ≤ 18 := by omega
    have HP := Lib.hid hp; clear hp hK19
    go_enter Try.func6, Try.ntmps6
    go_wp2_with (first
      | (go_at_call 17; refine HP.out.mono ?_; rintro e w' ⟨rfl, rfl⟩)
      | (go_at_call 18; refine hnum.out.mono ?_; rintro e w' ⟨rfl, N, rfl, hN⟩))
    have hF := fun w => Lib.hid (format_to N K K w hN rfl hK)
    have hR := read_same hN K hK
    have hP := fun w => Lib.hid (parse_at _ K N 0 w (ft_size hN hK) hR.1 hR.2)
    clear hR hN
    generalize str (by8 (ft N K)) = T at *
    refine (hF _).out.mono ?_
    rintro e w1 ⟨rfl, b1⟩
    go_wp2_with fail
    refine (hP _).out.mono ?_
    rintro e w2 ⟨rfl, b2⟩
    go_wp2_with fail
    refine (ha _).out.mono ?_
    rintro e w3 ⟨rfl, b3⟩
    go_wp2
    go_ret
    exact RetB.mk rfl (bel_trans (bel_trans b1 b2) b3)
theorem decimalRoundTrip_holds : Rows.DecimalRoundTripSaid :=
  OpenClaim.holds_of_wide 6 Try.f6 rfl rfl rfl rfl rfl rfl rfl ⟨rfl, rfl, rfl, rfl, rfl⟩ rfl rfl rfl rfl rfl (by kernel_rfl) Try.func6 (by kernel_rfl)
    (of_decide_eq_true (by kernel_rfl)) (by unfold Func.isWrapper; first | (rw [if_pos (by decide +kernel)]; kernel_rfl) | (rw [if_neg (by decide +kernel)]; exact ⟨rfl, rfl⟩))
    (fun os started H enc _ => decimalRoundTrip_lifted os started H enc)

set_option maxRecDepth 100000 in
set_option maxHeartbeats 4000000 in
theorem decimalShortTexts_lifted (os : Os) (started : os.Started) (H : Type) (enc : TypeId × Value → H) :
    ReturnsInHanded {} Try.checked os 9 .any (Rows.decimalShortTextsSpec.pre6 enc Try.prog Try.f9 Rows.decimalShortTextsRow.domain false) (Rows.decimalShortTextsSpec.post enc Try.prog Try.f9 false true false false) := by
  refine law_lifted (C := Try.checked) (tb := 4) started Try.own Try.laidOut (by kernel_rfl) Try.func9
    (ChangeSpec.witness6 (enc := enc) (C := Try.checked) false ⟨#[], #[.int .i64 0, .int .u8 0, .int .i64 0, .int .i64 0], []⟩ 8 (by kernel_rfl) (by kernel_rfl) (by kernel_rfl) (by kernel_rfl))
    rfl rfl Try.underlying4 (by kernel_rfl) (fun ds h => ?_) (fun W base args ds p hval0 hA0 hsz0 hlt => ?_)
  · have h' : ds.length = Try.f9.params.toList.length := h
    rw [Try.params9] at h'
    match ds, h' with
    | [_, _, _, _], _ => rfl
  · have hval : ∀ (j : Nat) t v, Try.f9.params[j]? = some t → args[j]? = some v → Value.okWide Try.prog W .any base t v := hval0
    have hA : DataW.TrodAll enc Try.prog W 0 (fun _ => true) true Try.f9.params.toList args.toList ds p := hA0
    have hsz : (DataW.weightsEach Try.prog Try.f9.params.toList ds).all (· ≤ reachBytes) = true := hsz0
    rw [Try.params9] at hA hval hsz
    clear hA0 hval0 hsz0
    obtain ⟨v0, vs0, d0, ds0, p0, q0, hargs, rfl, rfl, h0, r0⟩ := trodAll_cons hA
    obtain ⟨v1, vs1, d1, ds1, p1, q1, rfl, rfl, rfl, h1, r1⟩ := trodAll_cons r0
    obtain ⟨v2, vs2, d2, ds2, p2, q2, rfl, rfl, rfl, h2, r2⟩ := trodAll_cons r1
    obtain ⟨v3, vs3, d3, ds3, p3, q3, rfl, rfl, rfl, h3, r3⟩ := trodAll_cons r2
    obtain ⟨rfl, rfl, rfl⟩ := trodAll_nil r3
    obtain rfl : args = #[v0, v1, v2, v3] := by cases args; simp_all
    obtain ⟨n, rfl, rfl, rfl, wn⟩ := open_int Try.underlying2 (hval 0 2 v0 rfl rfl) h0
    obtain ⟨s, rfl, rfl, rfl, ws⟩ := open_int Try.underlying5 (hval 1 5 v1 rfl rfl) h1
    obtain ⟨a, rfl, rfl, rfl, wa⟩ := open_int Try.underlying3 (hval 2 3 v2 rfl rfl) h2
    obtain ⟨m, rfl, rfl, rfl, wm⟩ := open_int Try.underlying3 (hval 3 3 v3 rfl rfl) h3
    change Calls Try.prog 9 #[.int .i64 n, .int .u8 s, .int .i64 a, .int .i64 m] W (RetB (.bool true) W)
    have ha := fun w => Lib.hid (awake5_any w)
    have hnum := Lib.hid (number5_any n s W wn ws)
    obtain ⟨A, hA19, hp1⟩ := pick_as a 19 W wa (by decide) (by decide)
    have hA' : A ≤ 18 := by omega
    obtain ⟨d, hd, hp2⟩ := pick_as m (19 - (A : Int)) W wm (by omega) (by omega)
    have hAd : A + d ≤ 18 := by omega
    have HP1 := Lib.hid hp1; have HP2 := Lib.hid hp2; clear hp1 hp2 hA19 hd
    go_enter Try.func9, Try.ntmps9
    go_wp2_with (first
      | (go_at_call 17; (with_reducible refine HP1.out.mono ?_); rintro e w' ⟨rfl, rfl⟩)
      | (go_at_call 17; (with_reducible refine HP2.out.mono ?_); rintro e w' ⟨rfl, rfl⟩)
      | (go_at_call 18; refine hnum.out.mono ?_; rintro e w' ⟨rfl, N, rfl, hN⟩))
    have hF := fun w => Lib.hid (format_to N A A w hN rfl hA')
    have hR := read_ft hN A d hAd
    have hP := fun w => Lib.hid (parse_at _ ((A : Int) + (d : Int)) _ _ w (ft_size hN hA') hR.1 hR.2)
    have hS := fun w => Lib.hid (rescale_at N A ((A : Int) + (d : Int)) _ _ w ⟨hN, okS_nat hA', okS_add hAd⟩ rfl rfl)
    clear hR hN
    generalize str (by8 (ft N A)) = T at *
    generalize oV (resc N A ((A : Int) + (d : Int))) = v at *
    generalize oC (resc N A ((A : Int) + (d : Int))) = c at *
    go_wp2_with (first
      | (go_at_call 17; (with_reducible refine HP1.out.mono ?_); rintro e w' ⟨rfl, rfl⟩)
      | (go_at_call 17; (with_reducible refine HP2.out.mono ?_); rintro e w' ⟨rfl, rfl⟩))
    refine (hF _).out.mono ?_
    rintro e w1 ⟨rfl, b1⟩
    go_wp2_with fail
    (with_reducible refine (hP _).out.mono ?_)
    rintro e w2 ⟨rfl, b2⟩
    go_wp2_with (go_at_call 12; (with_reducible refine (hS _).out.mono ?_); rintro e w' ⟨rfl, rfl⟩)
    refine (ha _).out.mono ?_
    rintro e w3 ⟨rfl, b3⟩
    go_wp2
    go_ret
    exact RetB.mk rfl (bel_trans (bel_trans b1 b2) b3)
theorem decimalShortTexts_holds : Rows.DecimalShortTextsSaid :=
  OpenClaim.holds_of_wide 9 Try.f9 rfl rfl rfl rfl rfl rfl rfl ⟨rfl, rfl, rfl, rfl, rfl⟩ rfl rfl rfl rfl rfl (by kernel_rfl) Try.func9 (by kernel_rfl)
    (of_decide_eq_true (by kernel_rfl)) (by unfold Func.isWrapper; first | (rw [if_pos (by decide +kernel)]; kernel_rfl) | (rw [if_neg (by decide +kernel)]; exact ⟨rfl, rfl⟩))
    (fun os started H enc _ => decimalShortTexts_lifted os started H enc)

set_option maxRecDepth 100000 in
set_option maxHeartbeats 4000000 in
theorem decimalExamples_lifted (os : Os) (started : os.Started) (H : Type) (enc : TypeId × Value → H) :
    ReturnsInHanded {} Try.checked os 3 .any (Rows.decimalExamplesSpec.pre6 enc Try.prog Try.f3 Rows.decimalExamplesRow.domain false) (Rows.decimalExamplesSpec.post enc Try.prog Try.f3 false true false false) := by
  refine law_lifted (C := Try.checked) (tb := 4) started Try.own Try.laidOut (by kernel_rfl) Try.func3
    (ChangeSpec.witness6 (enc := enc) (C := Try.checked) false ⟨#[], #[], []⟩ 8 (by kernel_rfl) (by kernel_rfl) (by kernel_rfl) (by kernel_rfl))
    rfl rfl Try.underlying4 (by kernel_rfl) (fun ds h => ?_) (fun W base args ds p hval0 hA0 hsz0 hlt => ?_)
  · have h' : ds.length = Try.f3.params.toList.length := h
    rw [Try.params3] at h'
    match ds, h' with
    | [], _ => rfl
  · have hval : ∀ (j : Nat) t v, Try.f3.params[j]? = some t → args[j]? = some v → Value.okWide Try.prog W .any base t v := hval0
    have hA : DataW.TrodAll enc Try.prog W 0 (fun _ => true) true Try.f3.params.toList args.toList ds p := hA0
    have hsz : (DataW.weightsEach Try.prog Try.f3.params.toList ds).all (· ≤ reachBytes) = true := hsz0
    rw [Try.params3] at hA hval hsz
    clear hA0 hval0 hsz0
    obtain ⟨hargs, rfl, rfl⟩ := trodAll_nil hA
    obtain rfl : args = #[] := by cases args; simp_all
    change Calls Try.prog 3 #[] W (RetB (.bool true) W)
    have h1 := format_any (-105) 2 W
    rw [FN_105, show FC (-105) 2 = 0 from by decide] at h1
    have H1 := Lib.hid h1; clear h1
    have h2 := fun w => Lib.hid (parse_at ⟨#[49, 46, 53]⟩ 2 150 0 w (by decide) (by decide) (by decide))
    have h3 := fun w => Lib.hid (rescale_at 150 2 1 15 0 w (by decide) (by decide) (by decide))
    have h4 := fun w => Lib.hid (rescale_at 155 2 1 0 8 w (by decide) (by decide) (by decide))
    go_enter Try.func3, Try.ntmps3
    go_wp2_with fail
    refine H1.out.mono ?_
    rintro e w1 ⟨rfl, b1⟩
    go_wp2_with fail
    refine (h2 _).out.mono ?_
    rintro e w2 ⟨rfl, b2⟩
    go_wp2_with (first
      | (go_at_call 12; (with_reducible refine (h3 _).out.mono ?_); rintro e w' ⟨rfl, rfl⟩)
      | (go_at_call 12; (with_reducible refine (h4 _).out.mono ?_); rintro e w' ⟨rfl, rfl⟩))
    go_ret
    exact RetB.mk rfl (bel_trans b1 b2)
theorem decimalExamples_holds : Rows.DecimalExamplesSaid :=
  OpenClaim.holds_of_wide 3 Try.f3 rfl rfl rfl rfl rfl rfl rfl ⟨rfl, rfl, rfl, rfl, rfl⟩ rfl rfl rfl rfl rfl (by kernel_rfl) Try.func3 (by kernel_rfl)
    (of_decide_eq_true (by kernel_rfl)) (by unfold Func.isWrapper; first | (rw [if_pos (by decide +kernel)]; kernel_rfl) | (rw [if_neg (by decide +kernel)]; exact ⟨rfl, rfl⟩))
    (fun os started H enc _ => decimalExamples_lifted os started H enc)
end Go.Proofs.Ytclpgfckcdaefaa
