/- Statements of layer 5 on texts that are written and on rescaling, each out of the contracts. -/
import Derived.Test.YtclpgfckcdaefaaDecW4
namespace Go.DC
open Go.VB Go.DT
theorem wn_is {m k w : Nat} (h1 : 1 ≤ w) (h2 : m / 10 ^ k < 10 ^ w) (h3 : w = 1 ∨ 10 ^ (w - 1) ≤ m / 10 ^ k) : wn m k = w := by
  unfold wn
  have ha := (len_le _ _).1 h2
  rcases h3 with rfl | h3
  · omega
  · have hb : ¬ len (m / 10 ^ k) ≤ w - 1 := fun h => by have := (len_le (m / 10 ^ k) (w - 1)).2 h; omega
    omega
theorem ft_is {n : Int} {k w : Nat} (h1 : 1 ≤ w) (h2 : n.natAbs / 10 ^ k < 10 ^ w) (h3 : w = 1 ∨ 10 ^ (w - 1) ≤ n.natAbs / 10 ^ k) : ft n k = sign n ++ (dg (n.natAbs / 10 ^ k) w ++ tail n.natAbs k) := by
  unfold ft whole
  rw [wn_is h1 h2 h3]
theorem FN_5 : FN 5 1 = ⟨#[48, 46, 53]⟩ := by
  rw [FN_in (by decide), ft_is (w := 1) (by decide) (by decide) (by decide)]
  decide
theorem FN_105 : FN (-105) 2 = ⟨#[45, 49, 46, 48, 53]⟩ := by
  rw [FN_in (by decide), ft_is (w := 1) (by decide) (by decide) (by decide)]
  decide
/-- It returns a permitted number; the world is as it was. -/
def RetNum (w : World) : Ending → World → Prop := fun e w' => w = w' ∧ ∃ n : Int, e = .returned (.int .i64 n) ∧ okN n
theorem RetNum.mk {w : World} {n : Int} (h : okN n) : RetNum w (.returned (.int .i64 n)) w := ⟨rfl, n, rfl, h⟩
theorem okN_tmod (x : Int) : okN (x.tmod 1000000000000000000) := by
  have h1 := Int.lt_tmod_of_pos x (show (0 : Int) < 1000000000000000000 by decide)
  have h2 := Int.tmod_lt_of_pos x (show (0 : Int) < 1000000000000000000 by decide)
  unfold okN; omega
end Go.DC
namespace Go.Proofs.Ytclpgfckcdaefaa
open Go.RowKit Go.VB Go.DT Go.DC Go.ChangeShapes Go.WideShapes Go.ChangeAt
open Go.ChangeMaps (open_string)
set_option linter.constructorNameAsVariable false
theorem Try.own : ownKnob Try.prog.godebug = none := by kernel_rfl
theorem Try.laidOut : laidOutB Try.prog = true := by kernel_rfl
set_option maxRecDepth 100000 in
set_option maxHeartbeats 400000 in
theorem awake5_any (w : World) : Calls Try.prog 15 #[] w (RetB (.bool true) w) := by
  have hs := format_any 5 1 w
  rw [FN_5, show FC 5 1 = 0 from by decide] at hs
  have HS := Lib.hid hs; clear hs
  go_enter Try.func15, Try.ntmps15
  go_wp2_with fail
  refine HS.out.mono ?_
  rintro e w1 ⟨rfl, b1⟩
  go_wp2
  go_ret
  exact RetB.mk rfl b1
/-- The scale that the law's helper takes. -/
def sclN (v : Int) : Int := pickN v 21 - 1
set_option maxRecDepth 100000 in
set_option maxHeartbeats 400000 in
theorem sclN_any (v : Int) (w : World) (hv : (Lit.int .i64 v).wf = true) : Calls Try.prog 13 #[.int .i64 v] w (Ret (.int .i64 (sclN v)) w) := by
  have hs := Lib.hid (pick_at v 21 w hv (by decide) (by decide))
  have hb := pickN_bd v (n := 21) (by decide)
  have hd : sclN v = pickN v 21 - 1 := rfl
  generalize pickN v 21 = p at *
  generalize sclN v = q at *
  have HD := Lib.hid hd; clear hd
  go_enter Try.func13, Try.ntmps13
  go_wp2_with (go_at_call 17; refine hs.out.mono ?_; rintro e w' ⟨rfl, rfl⟩)
  go_ret
  exact Ret.mk (vint HD.out.symm)
set_option maxRecDepth 100000 in
set_option maxHeartbeats 400000 in
theorem number5_any (n s : Int) (w : World) (hn : (Lit.int .i64 n).wf = true) (hs : (Lit.int .u8 s).wf = true) : Calls Try.prog 18 #[.int .i64 n, .int .u8 s] w (RetNum w) := by
  have hn1 := bounds_i64 hn
  have hs1 := bounds_u8 hs
  clear hn hs
  obtain ⟨s, rfl⟩ := Int.eq_ofNat_of_zero_le hs1.1
  have hs2 : s ≤ 255 := by omega
  clear hs1
  obtain ⟨h1, h2⟩ := hn1
  go_enter Try.func18, Try.ntmps18
  go_wp2
  go_ret
  exact RetNum.mk (okN_tmod _)

set_option maxRecDepth 100000 in
set_option maxHeartbeats 4000000 in
theorem decimalFormats_lifted (os : Os) (started : os.Started) (H : Type) (enc : TypeId × Value → H) :
    ReturnsInHanded {} Try.checked os 4 .any (Rows.decimalFormatsSpec.pre6 enc Try.prog Try.f4 Rows.decimalFormatsRow.domain false) (Rows.decimalFormatsSpec.post enc Try.prog Try.f4 false true false false) := by
  refine law_lifted (C := Try.checked) (tb := 4) started Try.own Try.laidOut (by kernel_rfl) Try.func4
    (ChangeSpec.witness6 (enc := enc) (C := Try.checked) false ⟨#[], #[.int .i64 0, .int .u8 0, .int .i64 0], []⟩ 8 (by kernel_rfl) (by kernel_rfl) (by kernel_rfl) (by kernel_rfl))
    rfl rfl Try.underlying4 (by kernel_rfl) (fun ds h => ?_) (fun W base args ds p hval0 hA0 hsz0 hlt => ?_)
  · have h' : ds.length = Try.f4.params.toList.length := h
    rw [Try.params4] at h'
    match ds, h' with
    | [_, _, _], _ => rfl
  · have hval : ∀ (j : Nat) t v, Try.f4.params[j]? = some t → args[j]? = some v → Value.okWide Try.prog W .any base t v := hval0
    have hA : DataW.TrodAll enc Try.prog W 0 (fun _ => true) true Try.f4.params.toList args.toList ds p := hA0
    have hsz : (DataW.weightsEach Try.prog Try.f4.params.toList ds).all (· ≤ reachBytes) = true := hsz0
    rw [Try.params4] at hA hval hsz
    clear hA0 hval0 hsz0
    obtain ⟨v0, vs0, d0, ds0, p0, q0, hargs, rfl, rfl, h0, r0⟩ := trodAll_cons hA
    obtain ⟨v1, vs1, d1, ds1, p1, q1, rfl, rfl, rfl, h1, r1⟩ := trodAll_cons r0
    obtain ⟨v2, vs2, d2, ds2, p2, q2, rfl, rfl, rfl, h2, r2⟩ := trodAll_cons r1
    obtain ⟨rfl, rfl, rfl⟩ := trodAll_nil r2
    obtain rfl : args = #[v0, v1, v2] := by cases args; simp_all
    obtain ⟨n, rfl, rfl, rfl, wn⟩ := open_int Try.underlying2 (hval 0 2 v0 rfl rfl) h0
    obtain ⟨s, rfl, rfl, rfl, ws⟩ := open_int Try.underlying5 (hval 1 5 v1 rfl rfl) h1
    obtain ⟨k, rfl, rfl, rfl, wk⟩ := open_int Try.underlying3 (hval 2 3 v2 rfl rfl) h2
    change Calls Try.prog 4 #[.int .i64 n, .int .u8 s, .int .i64 k] W (RetB (.bool true) W)
    have hs := fun w => Lib.hid (sclN_any k w wk)
    have ha := fun w => Lib.hid (awake5_any w)
    have hs1 := bounds_u8 ws
    obtain ⟨s, rfl⟩ := Int.eq_ofNat_of_zero_le hs1.1
    have hs2 : s ≤ 255 := by omega
    clear hs1
    generalize sclN k = q at *
    have hF1 := fun w => Lib.hid (format_any (n / 2 ^ (s % 64)) q w)
    have hF2 := fun w => Lib.hid (rformat_any (n / 2 ^ (s % 64)) q w)
    have hF3 := fun w => Lib.hid (format_any (n / 2 ^ (s % 64)) k w)
    have hF4 := fun w => Lib.hid (rformat_any (n / 2 ^ (s % 64)) k w)
    generalize FN (n / 2 ^ (s % 64)) q = T1 at *
    generalize FC (n / 2 ^ (s % 64)) q = C1 at *
    generalize FN (n / 2 ^ (s % 64)) k = T2 at *
    generalize FC (n / 2 ^ (s % 64)) k = C2 at *
    go_enter Try.func4, Try.ntmps4
    go_wp2_with (go_at_call 13; refine (hs _).out.mono ?_; rintro e w' ⟨rfl, rfl⟩)
    refine (hF1 _).out.mono ?_
    rintro e w1 ⟨rfl, b1⟩
    go_wp2_with (first
      | (go_at_call 13; refine (hs _).out.mono ?_; rintro e w' ⟨rfl, rfl⟩)
      | (go_at_call 14; (with_reducible refine (hF2 _).out.mono ?_); rintro e w' ⟨rfl, rfl⟩))
    refine (hF3 _).out.mono ?_
    rintro e w2 ⟨rfl, b2⟩
    go_wp2_with (first
      | (go_at_call 13; refine (hs _).out.mono ?_; rintro e w' ⟨rfl, rfl⟩)
      | (go_at_call 14; (with_reducible refine (hF4 _).out.mono ?_); rintro e w' ⟨rfl, rfl⟩))
    refine (ha _).out.mono ?_
    rintro e w3 ⟨rfl, b3⟩
    go_wp2
    go_ret
    exact RetB.mk rfl (bel_trans (bel_trans b1 b2) b3)
theorem decimalFormats_holds : Rows.DecimalFormatsSaid :=
  OpenClaim.holds_of_wide 4 Try.f4 rfl rfl rfl rfl rfl rfl rfl ⟨rfl, rfl, rfl, rfl, rfl⟩ rfl rfl rfl rfl rfl (by kernel_rfl) Try.func4 (by kernel_rfl)
    (of_decide_eq_true (by kernel_rfl)) (by unfold Func.isWrapper; first | (rw [if_pos (by decide +kernel)]; kernel_rfl) | (rw [if_neg (by decide +kernel)]; exact ⟨rfl, rfl⟩))
    (fun os started H enc _ => decimalFormats_lifted os started H enc)

set_option maxRecDepth 100000 in
set_option maxHeartbeats 4000000 in
theorem decimalRescales_lifted (os : Os) (started : os.Started) (H : Type) (enc : TypeId × Value → H) :
    ReturnsInHanded {} Try.checked os 7 .any (Rows.decimalRescalesSpec.pre6 enc Try.prog Try.f7 Rows.decimalRescalesRow.domain false) (Rows.decimalRescalesSpec.post enc Try.prog Try.f7 false true false false) := by
  refine law_lifted (C := Try.checked) (tb := 4) started Try.own Try.laidOut (by kernel_rfl) Try.func7
    (ChangeSpec.witness6 (enc := enc) (C := Try.checked) false ⟨#[], #[.int .i64 0, .int .u8 0, .int .i64 0, .int .i64 0], []⟩ 8 (by kernel_rfl) (by kernel_rfl) (by kernel_rfl) (by kernel_rfl))
    rfl rfl Try.underlying4 (by kernel_rfl) (fun ds h => ?_) (fun W base args ds p hval0 hA0 hsz0 hlt => ?_)
  · have h' : ds.length = Try.f7.params.toList.length := h
    rw [Try.params7] at h'
    match ds, h' with
    | [_, _, _, _], _ => rfl
  · have hval : ∀ (j : Nat) t v, Try.f7.params[j]? = some t → args[j]? = some v → Value.okWide Try.prog W .any base t v := hval0
    have hA : DataW.TrodAll enc Try.prog W 0 (fun _ => true) true Try.f7.params.toList args.toList ds p := hA0
    have hsz : (DataW.weightsEach Try.prog Try.f7.params.toList ds).all (· ≤ reachBytes) = true := hsz0
    rw [Try.params7] at hA hval hsz
    clear hA0 hval0 hsz0
    obtain ⟨v0, vs0, d0, ds0, p0, q0, hargs, rfl, rfl, h0, r0⟩ := trodAll_cons hA
    obtain ⟨v1, vs1, d1, ds1, p1, q1, rfl, rfl, rfl, h1, r1⟩ := trodAll_cons r0
    obtain ⟨v2, vs2, d2, ds2, p2, q2, rfl, rfl, rfl, h2, r2⟩ := trodAll_cons r1
    obtain ⟨v3, vs3, d3, ds3, p3, q3, rfl, rfl, rfl, h3, r3⟩ := trodAll_cons r2
    obtain ⟨rfl, rfl, rfl⟩ := trodAll_nil r3
    obtain rfl : args = #[v0, v1, v2, v3] := by cases args; simp_all
    obtain ⟨n, rfl, rfl, rfl, wn⟩ := open_int Try.underlying2 (hval 0 2 v0 rfl rfl) h0
    obtain ⟨s, rfl, rfl, rfl, ws⟩ := open_int Try.underlying5 (hval 1 5 v1 rfl rfl) h1
    obtain ⟨a, rfl, rfl, rfl, wa⟩ := open_int Try.underlying3 (hval 2 3 v2 rfl rfl) h2
    obtain ⟨b, rfl, rfl, rfl, wb⟩ := open_int Try.underlying3 (hval 3 3 v3 rfl rfl) h3
    change Calls Try.prog 7 #[.int .i64 n, .int .u8 s, .int .i64 a, .int .i64 b] W (RetB (.bool true) W)
    have hsa := Lib.hid (sclN_any a W wa)
    have hsb := Lib.hid (sclN_any b W wb)
    have ha := fun w => Lib.hid (awake5_any w)
    have hs1 := bounds_u8 ws
    obtain ⟨s, rfl⟩ := Int.eq_ofNat_of_zero_le hs1.1
    have hs2 : s ≤ 255 := by omega
    clear hs1
    generalize sclN a = p at *
    generalize sclN b = q at *
    have h1 := Lib.hid (rescale_any (n / 2 ^ (s % 64)) p q W)
    have h2 := Lib.hid (rrescale_any (n / 2 ^ (s % 64)) p q W)
    generalize rsN (n / 2 ^ (s % 64)) p q = N1 at *
    generalize rsC (n / 2 ^ (s % 64)) p q = C1 at *
    go_enter Try.func7, Try.ntmps7
    go_wp2_with (first
      | (go_at_call 13; (with_reducible refine hsa.out.mono ?_); rintro e w' ⟨rfl, rfl⟩)
      | (go_at_call 13; (with_reducible refine hsb.out.mono ?_); rintro e w' ⟨rfl, rfl⟩)
      | (go_at_call 12; (with_reducible refine h1.out.mono ?_); rintro e w' ⟨rfl, rfl⟩)
      | (go_at_call 19; (with_reducible refine h2.out.mono ?_); rintro e w' ⟨rfl, rfl⟩))
    refine (ha _).out.mono ?_
    rintro e w3 ⟨rfl, b3⟩
    go_wp2
    go_ret
    exact RetB.mk rfl b3
theorem decimalRescales_holds : Rows.DecimalRescalesSaid :=
  OpenClaim.holds_of_wide 7 Try.f7 rfl rfl rfl rfl rfl rfl rfl ⟨rfl, rfl, rfl, rfl, rfl⟩ rfl rfl rfl rfl rfl (by kernel_rfl) Try.func7 (by kernel_rfl)
    (of_decide_eq_true (by kernel_rfl)) (by unfold Func.isWrapper; first | (rw [if_pos (by decide +kernel)]; kernel_rfl) | (rw [if_neg (by decide +kernel)]; exact ⟨rfl, rfl⟩))
    (fun os started H enc _ => decimalRescales_lifted os started H enc)
end Go.Proofs.Ytclpgfckcdaefaa
