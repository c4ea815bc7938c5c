/- The statements of layer 8, each out of the contracts. -/
import Derived.Test.YteodifbbgohkpaaNulW3
namespace Go.Proofs.Yteodifbbgohkpaa
open Go.RowKit Go.VB Go.BP Go.NU Go.ChangeShapes Go.WideShapes Go.ChangeAt
open Go.ChangeMaps (open_string)
set_option linter.constructorNameAsVariable false
theorem Try.own : ownKnob Try.prog.godebug = none := by kernel_rfl
theorem Try.laidOut : laidOutB Try.prog = true := by kernel_rfl
theorem lit_eq {a b : Nat} (h : a = b) : ((a : Int) == (b : Int)) = true := by rw [h]; exact beq_self_eq_true _

set_option maxRecDepth 100000 in
set_option maxHeartbeats 4000000 in
theorem nullsExamples_lifted (os : Os) (started : os.Started) (H : Type) (enc : TypeId × Value → H) :
    ReturnsInHanded {} Try.checked os 3 .any (Rows.nullsExamplesSpec.pre6 enc Try.prog Try.f3 Rows.nullsExamplesRow.domain false) (Rows.nullsExamplesSpec.post enc Try.prog Try.f3 false true false false) := by
  refine law_lifted (C := Try.checked) (tb := 4) started Try.own Try.laidOut (by kernel_rfl) Try.func3
    (ChangeSpec.witness6 (enc := enc) (C := Try.checked) false ⟨#[], #[], []⟩ 8 (by kernel_rfl) (by kernel_rfl) (by kernel_rfl) (by kernel_rfl))
    rfl rfl Try.underlying4 (by kernel_rfl) (fun ds h => ?_) (fun W base args ds p hval0 hA0 hsz0 hlt => ?_)
  · have h' : ds.length = Try.f3.params.toList.length := h
    rw [Try.params3] at h'
    match ds, h' with
    | [], _ => rfl
  · have hval : ∀ (j : Nat) t v, Try.f3.params[j]? = some t → args[j]? = some v → Value.okWide Try.prog W .any base t v := hval0
    have hA : DataW.TrodAll enc Try.prog W 0 (fun _ => true) true Try.f3.params.toList args.toList ds p := hA0
    have hsz : (DataW.weightsEach Try.prog Try.f3.params.toList ds).all (· ≤ reachBytes) = true := hsz0
    rw [Try.params3] at hA hval hsz
    clear hA0 hval0 hsz0
    obtain ⟨hargs, rfl, rfl⟩ := trodAll_nil hA
    obtain rfl : args = #[] := by cases args; simp_all
    change Calls Try.prog 3 #[] W (RetB (.bool true) W)
    have hr : rk ⟨#[5]⟩ 3 = 1 := by decide +kernel
    have hrk : ∀ w, Calls Try.prog 11 #[.string ⟨#[5]⟩, .int .i64 3] w (RetB (.int .i64 1) w) := fun w => by
      have h := nrank_any ⟨#[5]⟩ 3 w (by decide)
      rw [hr] at h; exact h
    have hct : ∀ w, Calls Try.prog 12 #[.string ⟨#[5]⟩] w (Ret (.int .i64 2) w) := fun w => ncount_at ⟨#[5]⟩ 2 w (by decide) (by decide +kernel)
    have HK := fun w => Lib.hid (hrk w); have HC := fun w => Lib.hid (hct w); clear hrk hct hr
    go_enter Try.func3, Try.ntmps3
    go_wp2_with fail
    refine (npack_eq _ _ _ _ (rdv_tft _ _ _ (by decide) (by decide)) (by simp) (by decide) bmp_tft).mono ?_
    rintro e w1 ⟨rfl, hb⟩
    have hB := ((Below.refl W.heap.size W).alloc (Nat.le_refl _) (.cells #[.bool true, .bool false, .bool true] 4)).trans (hb.mono (by simp))
    clear hb
    go_wp2_with (first
      | (go_at_call 11; (with_reducible refine (HK _).out.mono ?_); rintro e w2 ⟨rfl, hb⟩; replace hB := bel_trans hB hb; clear hb)
      | (go_at_call 12; (with_reducible refine (HC _).out.mono ?_); rintro e w' ⟨rfl, rfl⟩))
    go_ret
    exact RetB.mk rfl hB
theorem nullsExamples_holds : Rows.NullsExamplesSaid :=
  OpenClaim.holds_of_wide 3 Try.f3 rfl rfl rfl rfl rfl rfl rfl ⟨rfl, rfl, rfl, rfl, rfl⟩ rfl rfl rfl rfl rfl (by kernel_rfl) Try.func3 (by kernel_rfl)
    (of_decide_eq_true (by kernel_rfl)) (by unfold Func.isWrapper; first | (rw [if_pos (by decide +kernel)]; kernel_rfl) | (rw [if_neg (by decide +kernel)]; exact ⟨rfl, rfl⟩))
    (fun os started H enc _ => nullsExamples_lifted os started H enc)

set_option maxRecDepth 100000 in
set_option maxHeartbeats 4000000 in
theorem nullsPacks_lifted (os : Os) (started : os.Started) (H : Type) (enc : TypeId × Value → H) :
    ReturnsInHanded {} Try.checked os 4 .any (Rows.nullsPacksSpec.pre6 enc Try.prog Try.f4 Rows.nullsPacksRow.domain false) (Rows.nullsPacksSpec.post enc Try.prog Try.f4 false true false false) := by
  refine law_lifted (C := Try.checked) (tb := 4) started Try.own Try.laidOut (by kernel_rfl) Try.func4
    (ChangeSpec.witness6 (enc := enc) (C := Try.checked) false ⟨#[], #[.slice none 0 0], []⟩ 8 (by kernel_rfl) (by kernel_rfl) (by kernel_rfl) (by kernel_rfl))
    rfl rfl Try.underlying4 (by kernel_rfl) (fun ds h => ?_) (fun W base args ds p hval0 hA0 hsz0 hlt => ?_)
  · have h' : ds.length = Try.f4.params.toList.length := h
    rw [Try.params4] at h'
    match ds, h' with
    | [_], _ => rfl
  · have hval : ∀ (j : Nat) t v, Try.f4.params[j]? = some t → args[j]? = some v → Value.okWide Try.prog W .any base t v := hval0
    have hA : DataW.TrodAll enc Try.prog W 0 (fun _ => true) true Try.f4.params.toList args.toList ds p := hA0
    have hsz : (DataW.weightsEach Try.prog Try.f4.params.toList ds).all (· ≤ reachBytes) = true := hsz0
    rw [Try.params4] at hA hval hsz
    clear hA0 hval0 hsz0
    obtain ⟨v0, vs0, d0, ds0, p0, q0, hargs, rfl, rfl, h0, r0⟩ := trodAll_cons hA
    obtain ⟨rfl, rfl, rfl⟩ := trodAll_nil r0
    obtain rfl : args = #[v0] := by cases args; simp_all
    obtain ⟨zl, rl, bl⟩ := open_rdB Try.underlying23 Try.underlying4 (by kernel_rfl) (hval 0 23 v0 rfl rfl) h0 hsz (j := 0) rfl rfl
    replace bl : zl.length ≤ 140737488351232 := by rw [show Try.prog.bytesOf 4 = 1 from by kernel_rfl, Nat.mul_one] at bl; exact bl
    change Calls Try.prog 4 #[v0] W (RetB (.bool true) W)
    have hB := Below.refl W.heap.size W
    have HR := Lib.hid rl; clear rl
    generalize hS : bmp zl = S
    go_enter Try.func4, Try.ntmps4
    go_wp2_with fail
    refine (awake8_any _).mono ?_; rintro e w1 ⟨rfl, hb⟩; replace hB := bel_trans hB hb; clear hb
    go_wp2_with fail
    refine (npack_any _ zl _ _ (HR.out.below hB) hB.size bl).mono ?_; rintro e w2 ⟨rfl, hb⟩; replace hB := bel_trans hB hb; clear hb
    go_wp2_with fail
    refine (rpackb_any _ zl _ _ (HR.out.below hB) hB.size bl).mono ?_; rintro e w3 ⟨rfl, hb⟩; replace hB := bel_trans hB hb; clear hb
    clear HR
    go_wp2
    go_ret
    exact RetB.mk rfl hB
theorem nullsPacks_holds : Rows.NullsPacksSaid :=
  OpenClaim.holds_of_wide 4 Try.f4 rfl rfl rfl rfl rfl rfl rfl ⟨rfl, rfl, rfl, rfl, rfl⟩ rfl rfl rfl rfl rfl (by kernel_rfl) Try.func4 (by kernel_rfl)
    (of_decide_eq_true (by kernel_rfl)) (by unfold Func.isWrapper; first | (rw [if_pos (by decide +kernel)]; kernel_rfl) | (rw [if_neg (by decide +kernel)]; exact ⟨rfl, rfl⟩))
    (fun os started H enc _ => nullsPacks_lifted os started H enc)

set_option maxRecDepth 100000 in
set_option maxHeartbeats 4000000 in
theorem nullsUnpacks_lifted (os : Os) (started : os.Started) (H : Type) (enc : TypeId × Value → H) :
    ReturnsInHanded {} Try.checked os 5 .any (Rows.nullsUnpacksSpec.pre6 enc Try.prog Try.f5 Rows.nullsUnpacksRow.domain false) (Rows.nullsUnpacksSpec.post enc Try.prog Try.f5 false true false false) := by
  refine law_lifted (C := Try.checked) (tb := 4) started Try.own Try.laidOut (by kernel_rfl) Try.func5
    (ChangeSpec.witness6 (enc := enc) (C := Try.checked) false ⟨#[], #[.string ⟨#[]⟩, .int .i64 0], []⟩ 8 (by kernel_rfl) (by kernel_rfl) (by kernel_rfl) (by kernel_rfl))
    rfl rfl Try.underlying4 (by kernel_rfl) (fun ds h => ?_) (fun W base args ds p hval0 hA0 hsz0 hlt => ?_)
  · have h' : ds.length = Try.f5.params.toList.length := h
    rw [Try.params5] at h'
    match ds, h' with
    | [_, _], _ => rfl
  · have hval : ∀ (j : Nat) t v, Try.f5.params[j]? = some t → args[j]? = some v → Value.okWide Try.prog W .any base t v := hval0
    have hA : DataW.TrodAll enc Try.prog W 0 (fun _ => true) true Try.f5.params.toList args.toList ds p := hA0
    have hsz : (DataW.weightsEach Try.prog Try.f5.params.toList ds).all (· ≤ reachBytes) = true := hsz0
    rw [Try.params5] at hA hval hsz
    clear hA0 hval0 hsz0
    obtain ⟨v0, vs0, d0, ds0, p0, q0, hargs, rfl, rfl, h0, r0⟩ := trodAll_cons hA
    obtain ⟨v1, vs1, d1, ds1, p1, q1, rfl, rfl, rfl, h1, r1⟩ := trodAll_cons r0
    obtain ⟨rfl, rfl, rfl⟩ := trodAll_nil r1
    obtain rfl : args = #[v0, v1] := by cases args; simp_all
    obtain ⟨s, rfl, rfl, rfl, _⟩ := open_string Try.underlying9 (hval 0 9 v0 rfl rfl) h0
    have zs : s.size ≤ 140737488351232 := by have h := sized_string hsz (j := 0) (t := 9) rfl rfl; rw [size_list] at h; exact h
    obtain ⟨n, rfl, rfl, rfl, wn⟩ := open_int Try.underlying3 (hval 1 3 v1 rfl rfl) h1
    change Calls Try.prog 5 #[.string s, .int .i64 n] W (RetB (.bool true) W)
    have HPK := fun w => Lib.hid (pick_at n (8 * (s.size : Int) + 12) w wn (by omega) (by omega))
    have hp := pickN_bd n (n := 8 * (s.size : Int) + 12) (by omega)
    generalize pickN n (8 * (s.size : Int) + 12) = p at *
    obtain ⟨p1, p2⟩ := hp
    have hB := Below.refl W.heap.size W
    go_enter Try.func5, Try.ntmps5
    go_wp2_with (go_at_call 15; (with_reducible refine (HPK _).out.mono ?_); rintro e w' ⟨rfl, rfl⟩)
    have H1 := fun w => Lib.hid (nunpack_any s (p - 2) w zs)
    have H2 := fun w => Lib.hid (runpackb_any s (p - 2) w zs)
    have H3 := fun w => Lib.hid (nunpack_any s n w zs)
    have H4 := fun w => Lib.hid (runpackb_any s n w zs)
    generalize upk s (p - 2) = R at *
    generalize upk s n = T at *
    refine (H1 _).out.mono ?_; rintro e w1 ⟨v1, rfl, hown1, hb⟩; replace hB := bel_trans hB hb; clear hb
    go_wp2_with fail
    refine (H2 _).out.mono ?_; rintro e w2 ⟨v2, rfl, hown2, hb⟩; replace hB := bel_trans hB hb
    have hr1 := hown1.read.step hb
    have hr2 := hown2.read
    clear hb hown1 hown2
    go_wp2_with fail
    refine (H3 _).out.mono ?_; rintro e w3 ⟨v3, rfl, _, hb⟩; replace hB := bel_trans hB hb
    replace hr1 := hr1.step hb; replace hr2 := hr2.step hb; clear hb
    go_wp2_with fail
    refine (H4 _).out.mono ?_; rintro e w4 ⟨v4, rfl, _, hb⟩; replace hB := bel_trans hB hb
    replace hr1 := hr1.step hb; replace hr2 := hr2.step hb; clear hb
    go_wp2_with fail
    refine (awake8_any _).mono ?_; rintro e w5 ⟨rfl, hb⟩; replace hB := bel_trans hB hb
    replace hr1 := hr1.step hb; replace hr2 := hr2.step hb; clear hb
    go_wp2_with fail
    refine (same_b_eq _ _ R.1 _ _ hr1 hr2 (Nat.le_refl _)).mono ?_; rintro e w6 ⟨rfl, hb⟩; replace hB := bel_trans hB hb
    clear hr1 hr2 hb
    go_wp2
    go_ret
    exact RetB.mk rfl hB
theorem nullsUnpacks_holds : Rows.NullsUnpacksSaid :=
  OpenClaim.holds_of_wide 5 Try.f5 rfl rfl rfl rfl rfl rfl rfl ⟨rfl, rfl, rfl, rfl, rfl⟩ rfl rfl rfl rfl rfl (by kernel_rfl) Try.func5 (by kernel_rfl)
    (of_decide_eq_true (by kernel_rfl)) (by unfold Func.isWrapper; first | (rw [if_pos (by decide +kernel)]; kernel_rfl) | (rw [if_neg (by decide +kernel)]; exact ⟨rfl, rfl⟩))
    (fun os started H enc _ => nullsUnpacks_lifted os started H enc)

set_option maxRecDepth 100000 in
set_option maxHeartbeats 4000000 in
theorem nullsCounts_lifted (os : Os) (started : os.Started) (H : Type) (enc : TypeId × Value → H) :
    ReturnsInHanded {} Try.checked os 6 .any (Rows.nullsCountsSpec.pre6 enc Try.prog Try.f6 Rows.nullsCountsRow.domain false) (Rows.nullsCountsSpec.post enc Try.prog Try.f6 false true false false) := by
  refine law_lifted (C := Try.checked) (tb := 4) started Try.own Try.laidOut (by kernel_rfl) Try.func6
    (ChangeSpec.witness6 (enc := enc) (C := Try.checked) false ⟨#[], #[.string ⟨#[]⟩, .int .i64 0], []⟩ 8 (by kernel_rfl) (by kernel_rfl) (by kernel_rfl) (by kernel_rfl))
    rfl rfl Try.underlying4 (by kernel_rfl) (fun ds h => ?_) (fun W base args ds p hval0 hA0 hsz0 hlt => ?_)
  · have h' : ds.length = Try.f6.params.toList.length := h
    rw [Try.params6] at h'
    match ds, h' with
    | [_, _], _ => rfl
  · have hval : ∀ (j : Nat) t v, Try.f6.params[j]? = some t → args[j]? = some v → Value.okWide Try.prog W .any base t v := hval0
    have hA : DataW.TrodAll enc Try.prog W 0 (fun _ => true) true Try.f6.params.toList args.toList ds p := hA0
    have hsz : (DataW.weightsEach Try.prog Try.f6.params.toList ds).all (· ≤ reachBytes) = true := hsz0
    rw [Try.params6] at hA hval hsz
    clear hA0 hval0 hsz0
    obtain ⟨v0, vs0, d0, ds0, p0, q0, hargs, rfl, rfl, h0, r0⟩ := trodAll_cons hA
    obtain ⟨v1, vs1, d1, ds1, p1, q1, rfl, rfl, rfl, h1, r1⟩ := trodAll_cons r0
    obtain ⟨rfl, rfl, rfl⟩ := trodAll_nil r1
    obtain rfl : args = #[v0, v1] := by cases args; simp_all
    obtain ⟨s, rfl, rfl, rfl, _⟩ := open_string Try.underlying9 (hval 0 9 v0 rfl rfl) h0
    have zs : s.size ≤ 140737488351232 := by have h := sized_string hsz (j := 0) (t := 9) rfl rfl; rw [size_list] at h; exact h
    obtain ⟨i, rfl, rfl, rfl, wi⟩ := open_int Try.underlying3 (hval 1 3 v1 rfl rfl) h1
    change Calls Try.prog 6 #[.string s, .int .i64 i] W (RetB (.bool true) W)
    have HPK := fun w => Lib.hid (pick_at i (8 * (s.size : Int) + 12) w wi (by omega) (by omega))
    have hp := pickN_bd i (n := 8 * (s.size : Int) + 12) (by omega)
    generalize pickN i (8 * (s.size : Int) + 12) = p at *
    obtain ⟨p1, p2⟩ := hp
    have H1 := fun w => Lib.hid (nrank_any s (p - 2) w zs)
    have H2 := fun w => Lib.hid (rrank_any s (p - 2) w zs)
    have H3 := fun w => Lib.hid (nrank_any s i w zs)
    have H4 := fun w => Lib.hid (rrank_any s i w zs)
    have H5 := fun w => Lib.hid (ncount_any s w zs)
    have H6 := fun w => Lib.hid (rcount_any s w zs)
    generalize rk s (p - 2) = R at *
    generalize rk s i = T at *
    generalize ones (num s) (8 * s.size) = C at *
    have hB := Below.refl W.heap.size W
    go_enter Try.func6, Try.ntmps6
    go_wp2_with (first
      | (go_at_call 15; (with_reducible refine (HPK _).out.mono ?_); rintro e w' ⟨rfl, rfl⟩)
      | (go_at_call 13; refine (awake8_any _).mono ?_; rintro e w1 ⟨rfl, hb⟩; replace hB := bel_trans hB hb; clear hb)
      | (go_at_call 12; (with_reducible refine (H5 _).out.mono ?_); rintro e w' ⟨rfl, rfl⟩)
      | (go_at_call 19; (with_reducible refine (H6 _).out.mono ?_); rintro e w' ⟨rfl, rfl⟩)
      | (go_at_call 11; (with_reducible refine (H1 _).out.mono ?_); rintro e w2 ⟨rfl, hb⟩; replace hB := bel_trans hB hb; clear hb)
      | (go_at_call 11; (with_reducible refine (H3 _).out.mono ?_); rintro e w2 ⟨rfl, hb⟩; replace hB := bel_trans hB hb; clear hb)
      | (go_at_call 20; (with_reducible refine (H2 _).out.mono ?_); rintro e w' ⟨rfl, rfl⟩)
      | (go_at_call 20; (with_reducible refine (H4 _).out.mono ?_); rintro e w' ⟨rfl, rfl⟩))
    go_ret
    exact RetB.mk rfl hB
theorem nullsCounts_holds : Rows.NullsCountsSaid :=
  OpenClaim.holds_of_wide 6 Try.f6 rfl rfl rfl rfl rfl rfl rfl ⟨rfl, rfl, rfl, rfl, rfl⟩ rfl rfl rfl rfl rfl (by kernel_rfl) Try.func6 (by kernel_rfl)
    (of_decide_eq_true (by kernel_rfl)) (by unfold Func.isWrapper; first | (rw [if_pos (by decide +kernel)]; kernel_rfl) | (rw [if_neg (by decide +kernel)]; exact ⟨rfl, rfl⟩))
    (fun os started H enc _ => nullsCounts_lifted os started H enc)

set_option maxRecDepth 100000 in
set_option maxHeartbeats 4000000 in
theorem nullsTogether_lifted (os : Os) (started : os.Started) (H : Type) (enc : TypeId × Value → H) :
    ReturnsInHanded {} Try.checked os 9 .any (Rows.nullsTogetherSpec.pre6 enc Try.prog Try.f9 Rows.nullsTogetherRow.domain false) (Rows.nullsTogetherSpec.post enc Try.prog Try.f9 false true false false) := by
  refine law_lifted (C := Try.checked) (tb := 4) started Try.own Try.laidOut (by kernel_rfl) Try.func9
    (ChangeSpec.witness6 (enc := enc) (C := Try.checked) false ⟨#[], #[.string ⟨#[]⟩, .int .i64 0], []⟩ 8 (by kernel_rfl) (by kernel_rfl) (by kernel_rfl) (by kernel_rfl))
    rfl rfl Try.underlying4 (by kernel_rfl) (fun ds h => ?_) (fun W base args ds p hval0 hA0 hsz0 hlt => ?_)
  · have h' : ds.length = Try.f9.params.toList.length := h
    rw [Try.params9] at h'
    match ds, h' with
    | [_, _], _ => rfl
  · have hval : ∀ (j : Nat) t v, Try.f9.params[j]? = some t → args[j]? = some v → Value.okWide Try.prog W .any base t v := hval0
    have hA : DataW.TrodAll enc Try.prog W 0 (fun _ => true) true Try.f9.params.toList args.toList ds p := hA0
    have hsz : (DataW.weightsEach Try.prog Try.f9.params.toList ds).all (· ≤ reachBytes) = true := hsz0
    rw [Try.params9] at hA hval hsz
    clear hA0 hval0 hsz0
    obtain ⟨v0, vs0, d0, ds0, p0, q0, hargs, rfl, rfl, h0, r0⟩ := trodAll_cons hA
    obtain ⟨v1, vs1, d1, ds1, p1, q1, rfl, rfl, rfl, h1, r1⟩ := trodAll_cons r0
    obtain ⟨rfl, rfl, rfl⟩ := trodAll_nil r1
    obtain rfl : args = #[v0, v1] := by cases args; simp_all
    obtain ⟨s, rfl, rfl, rfl, _⟩ := open_string Try.underlying9 (hval 0 9 v0 rfl rfl) h0
    have zs : s.size ≤ 140737488351232 := by have h := sized_string hsz (j := 0) (t := 9) rfl rfl; rw [size_list] at h; exact h
    obtain ⟨i, rfl, rfl, rfl, wi⟩ := open_int Try.underlying3 (hval 1 3 v1 rfl rfl) h1
    change Calls Try.prog 9 #[.string s, .int .i64 i] W (RetB (.bool true) W)
    have HPK := fun w => Lib.hid (pick_at i (8 * (s.size : Int) + 1) w wi (by omega) (by omega))
    have hp := pickN_bd i (n := 8 * (s.size : Int) + 1) (by omega)
    generalize pickN i (8 * (s.size : Int) + 1) = p at *
    obtain ⟨p1, p2⟩ := hp
    obtain ⟨p, rfl⟩ := Int.eq_ofNat_of_zero_le p1
    have hp8 : p ≤ 8 * s.size := by omega
    have h1 : ∀ w, Calls Try.prog 11 #[.string s, .int .i64 (p : Int)] w (RetB (.int .i64 (zer (num s) p : Nat)) w) := fun w => nrank_in s p w zs hp8
    have h2 : ∀ w, Calls Try.prog 11 #[.string s, .int .i64 (8 * (s.size : Int))] w (RetB (.int .i64 (zer (num s) (8 * s.size) : Nat)) w) := fun w => by
      have h := nrank_in s (8 * s.size) w zs (Nat.le_refl _)
      rw [show ((8 * s.size : Nat) : Int) = 8 * (s.size : Int) by push_cast; rfl] at h; exact h
    have H1 := fun w => Lib.hid (h1 w); have H2 := fun w => Lib.hid (h2 w); clear h1 h2
    have H5 := fun w => Lib.hid (ncount_any s w zs)
    have e1 := zer_ones (num s) (8 * s.size)
    have e2 := zer_mono (num s) hp8
    have e3 := zer_le (num s) p
    generalize zer (num s) p = R at *
    generalize zer (num s) (8 * s.size) = T at *
    generalize ones (num s) (8 * s.size) = C at *
    have e4 : ((T : Int) + (C : Int) == 8 * (s.size : Int)) = true := beq_iff_eq.2 (by omega)
    have e5 : (T : Int) + (C : Int) ≤ 1125899906842624 := by omega
    have E1 := Lib.hid e1; clear e1
    have hB := Below.refl W.heap.size W
    go_enter Try.func9, Try.ntmps9
    go_wp2_with (first
      | (go_at_call 15; (with_reducible refine (HPK _).out.mono ?_); rintro e w' ⟨rfl, rfl⟩)
      | (go_at_call 13; refine (awake8_any _).mono ?_; rintro e w1 ⟨rfl, hb⟩; replace hB := bel_trans hB hb; clear hb)
      | (go_at_call 12; (with_reducible refine (H5 _).out.mono ?_); rintro e w' ⟨rfl, rfl⟩)
      | (go_at_call 11; (with_reducible refine (H1 _).out.mono ?_); rintro e w2 ⟨rfl, hb⟩; replace hB := bel_trans hB hb; clear hb)
      | (go_at_call 11; (with_reducible refine (H2 _).out.mono ?_); rintro e w2 ⟨rfl, hb⟩; replace hB := bel_trans hB hb; clear hb))
    go_ret
    exact RetB.mk rfl hB
theorem nullsTogether_holds : Rows.NullsTogetherSaid :=
  OpenClaim.holds_of_wide 9 Try.f9 rfl rfl rfl rfl rfl rfl rfl ⟨rfl, rfl, rfl, rfl, rfl⟩ rfl rfl rfl rfl rfl (by kernel_rfl) Try.func9 (by kernel_rfl)
    (of_decide_eq_true (by kernel_rfl)) (by unfold Func.isWrapper; first | (rw [if_pos (by decide +kernel)]; kernel_rfl) | (rw [if_neg (by decide +kernel)]; exact ⟨rfl, rfl⟩))
    (fun os started H enc _ => nullsTogether_lifted os started H enc)

set_option maxRecDepth 100000 in
set_option maxHeartbeats 2000000 in
theorem nround_walk (v0 : Value) (zl : List Bool) (W : World) (rl : RdV Value.bool W W.heap.size v0 zl) (bl : zl.length ≤ 140737488351232) :
    Calls Try.prog 7 #[v0] W (RetB (.bool true) W) := by
  have rl0 := rl
  obtain ⟨A, c, rfl, hc1, hc2, _⟩ := rl0
  unfold maxLen at hc2
  have hcut : ∃ m : Nat, m ≤ zl.length ∧ m ≤ 4096 ∧ (m = zl.length ∨ (m = 4096 ∧ 4096 < zl.length)) := ⟨min zl.length 4096, by omega, by omega, by omega⟩
  obtain ⟨m, hm1, hm2, hm3⟩ := hcut
  have hl : (zl.take m).length = m := by rw [List.length_take]; omega
  have hrd : RdV Value.bool W W.heap.size (.slice A m c) (zl.take m) := by
    have h := rl.head (m := zl.take m) (by rw [hl]) (by rw [hl]; exact hm1)
    rwa [hl] at h
  clear rl
  generalize zl.take m = l at hl hrd
  subst hl
  have HR := Lib.hid hrd; clear hrd
  have hl4 : l.length ≤ 4096 := hm2
  have HU : ∀ w, Hid (Calls Try.prog 16 #[.string (bmp l), .int .i64 (l.length : Int)] w (RetVE Value.bool 4 l 0 w)) := fun w => by
    have h := nunpack_any (bmp l) (l.length : Int) w (by rw [bmp_size]; omega)
    rw [upk_bmp hl4] at h; exact Lib.hid h
  have hB := Below.refl W.heap.size W
  rcases hm3 with h3 | ⟨h3, hz4⟩
  · rw [← h3] at hc1 ⊢
    clear h3
    go_enter Try.func7, Try.ntmps7
    go_wp2_with fail
    refine (npack_any _ l _ _ HR.out (Nat.le_refl _) (by omega)).mono ?_; rintro e w1 ⟨rfl, hb⟩
    have hr1 := HR.out.step hb
    replace hB := bel_trans hB hb; clear hb
    go_wp2_with fail
    refine (HU _).out.mono ?_; rintro e w2 ⟨v2, rfl, hown, hb⟩
    replace hr1 := hr1.step hb
    have hr2 := hown.read
    replace hB := bel_trans hB hb; clear hb hown
    go_wp2_with fail
    refine (awake8_any _).mono ?_; rintro e w3 ⟨rfl, hb⟩
    replace hr1 := hr1.step hb; replace hr2 := hr2.step hb
    replace hB := bel_trans hB hb; clear hb
    go_wp2_with fail
    refine (same_b_eq _ _ l _ _ hr2 hr1 (Nat.le_refl _)).mono ?_; rintro e w4 ⟨rfl, hb⟩
    replace hB := bel_trans hB hb; clear hb hr1 hr2
    go_wp2
    go_ret
    exact RetB.mk rfl hB
  · have HR : Hid (RdV Value.bool W W.heap.size (.slice A 4096 c) l) := by have h := HR; rw [h3] at h; exact h
    have HU : ∀ w, Hid (Calls Try.prog 16 #[.string (bmp l), .int .i64 4096] w (RetVE Value.bool 4 l 0 w)) := fun w => by have h := HU w; rw [h3] at h; exact h
    clear h3
    go_enter Try.func7, Try.ntmps7
    go_wp2_with fail
    refine (npack_any _ l _ _ HR.out (Nat.le_refl _) (by omega)).mono ?_; rintro e w1 ⟨rfl, hb⟩
    have hr1 := HR.out.step hb
    replace hB := bel_trans hB hb; clear hb
    go_wp2_with fail
    refine (HU _).out.mono ?_; rintro e w2 ⟨v2, rfl, hown, hb⟩
    replace hr1 := hr1.step hb
    have hr2 := hown.read
    replace hB := bel_trans hB hb; clear hb hown
    go_wp2_with fail
    refine (awake8_any _).mono ?_; rintro e w3 ⟨rfl, hb⟩
    replace hr1 := hr1.step hb; replace hr2 := hr2.step hb
    replace hB := bel_trans hB hb; clear hb
    go_wp2_with fail
    refine (same_b_eq _ _ l _ _ hr2 hr1 (Nat.le_refl _)).mono ?_; rintro e w4 ⟨rfl, hb⟩
    replace hB := bel_trans hB hb; clear hb hr1 hr2
    go_wp2
    go_ret
    exact RetB.mk rfl hB
set_option maxRecDepth 100000 in
set_option maxHeartbeats 4000000 in
theorem nullsRoundTrip_lifted (os : Os) (started : os.Started) (H : Type) (enc : TypeId × Value → H) :
    ReturnsInHanded {} Try.checked os 7 .any (Rows.nullsRoundTripSpec.pre6 enc Try.prog Try.f7 Rows.nullsRoundTripRow.domain false) (Rows.nullsRoundTripSpec.post enc Try.prog Try.f7 false true false false) := by
  refine law_lifted (C := Try.checked) (tb := 4) started Try.own Try.laidOut (by kernel_rfl) Try.func7
    (ChangeSpec.witness6 (enc := enc) (C := Try.checked) false ⟨#[], #[.slice none 0 0], []⟩ 8 (by kernel_rfl) (by kernel_rfl) (by kernel_rfl) (by kernel_rfl))
    rfl rfl Try.underlying4 (by kernel_rfl) (fun ds h => ?_) (fun W base args ds p hval0 hA0 hsz0 hlt => ?_)
  · have h' : ds.length = Try.f7.params.toList.length := h
    rw [Try.params7] at h'
    match ds, h' with
    | [_], _ => rfl
  · have hval : ∀ (j : Nat) t v, Try.f7.params[j]? = some t → args[j]? = some v → Value.okWide Try.prog W .any base t v := hval0
    have hA : DataW.TrodAll enc Try.prog W 0 (fun _ => true) true Try.f7.params.toList args.toList ds p := hA0
    have hsz : (DataW.weightsEach Try.prog Try.f7.params.toList ds).all (· ≤ reachBytes) = true := hsz0
    rw [Try.params7] at hA hval hsz
    clear hA0 hval0 hsz0
    obtain ⟨v0, vs0, d0, ds0, p0, q0, hargs, rfl, rfl, h0, r0⟩ := trodAll_cons hA
    obtain ⟨rfl, rfl, rfl⟩ := trodAll_nil r0
    obtain rfl : args = #[v0] := by cases args; simp_all
    obtain ⟨zl, rl, bl⟩ := open_rdB Try.underlying23 Try.underlying4 (by kernel_rfl) (hval 0 23 v0 rfl rfl) h0 hsz (j := 0) rfl rfl
    replace bl : zl.length ≤ 140737488351232 := by rw [show Try.prog.bytesOf 4 = 1 from by kernel_rfl, Nat.mul_one] at bl; exact bl
    change Calls Try.prog 7 #[v0] W (RetB (.bool true) W)
    exact nround_walk v0 zl W rl bl
theorem nullsRoundTrip_holds : Rows.NullsRoundTripSaid :=
  OpenClaim.holds_of_wide 7 Try.f7 rfl rfl rfl rfl rfl rfl rfl ⟨rfl, rfl, rfl, rfl, rfl⟩ rfl rfl rfl rfl rfl (by kernel_rfl) Try.func7 (by kernel_rfl)
    (of_decide_eq_true (by kernel_rfl)) (by unfold Func.isWrapper; first | (rw [if_pos (by decide +kernel)]; kernel_rfl) | (rw [if_neg (by decide +kernel)]; exact ⟨rfl, rfl⟩))
    (fun os started H enc _ => nullsRoundTrip_lifted os started H enc)

set_option maxRecDepth 100000 in
set_option maxHeartbeats 2000000 in
theorem nindex_walk (v0 : Value) (zl : List Bool) (W : World) (rl : RdV Value.bool W W.heap.size v0 zl) (bl : zl.length ≤ 140737488351232) :
    Calls Try.prog 8 #[v0] W (RetB (.bool true) W) := by
  have rl0 := rl
  obtain ⟨A, c, rfl, hc1, hc2, _⟩ := rl0
  unfold maxLen at hc2
  have HR := Lib.hid rl; clear rl
  have hz := bmp_size zl
  have hz8 : (bmp zl).size ≤ 140737488351232 := by omega
  have HS := Lib.hid hz; clear hz
  have HBT := fun (i : Nat) (b : Bool) (h : zl[i]? = some b) => Lib.hid (bit_bmp h)
  have hlast : ones (num (bmp zl)) (8 * (bmp zl).size) = ones (num (bmp zl)) zl.length := by
    obtain ⟨d, hd⟩ : ∃ d, 8 * (bmp zl).size = zl.length + d := ⟨8 * (bmp zl).size - zl.length, by have := HS.out; omega⟩
    rw [hd, ones_add, Nat.div_eq_of_lt (by rw [bmp_num]; exact bmp_big zl), ones_none, Nat.add_zero]
  have hcnt := fun w => ncount_at (bmp zl) _ w hz8 hlast
  have HCN := fun w => Lib.hid (hcnt w); clear hcnt hlast
  go_enter Try.func8, Try.ntmps8
  go_wp2_with fail
  refine (npack_any _ zl _ _ HR.out (Nat.le_refl _) bl).mono ?_; rintro e w1 ⟨rfl, hB⟩
  go_wp2
  go_loopw [4, 11] (fun k i wr => ∃ j : Nat, i = .int .i64 j ∧ j ≤ zl.length ∧ k = .int .i64 (zer (num (bmp zl)) j : Nat) ∧ Below W.heap.size W wr) (fun _ i _ => zl.length - (intOf i).toNat)
  case atStart => exact ⟨0, rfl, Nat.zero_le _, rfl, hB⟩
  case round =>
    obtain ⟨j, rfl, hj, rfl, hbel⟩ := hrel
    by_cases hlt : j < zl.length
    · have hlj : zl[j]? = some zl[j] := List.getElem?_eq_getElem hlt
      obtain ⟨_, _, hv1, _, _, hcx⟩ := HR.out.below hbel
      cases hv1
      obtain ⟨ad, rfl, _, hgx⟩ := hcx j _ hlj
      have hbt := (HBT j _ hlj).out
      have hrk := fun w => nrank_in (bmp zl) j w hz8 (by have := HS.out; omega)
      have hst := zer_succ (num (bmp zl)) j
      have hle := zer_le (num (bmp zl)) j
      clear hcx hlj
      generalize zl[j] = b at hgx hbt
      rw [hbt] at hst
      generalize hk : zer (num (bmp zl)) j = k at hrk hst hle ⊢
      have HST := Lib.hid hst; have HRK := fun w => Lib.hid (hrk w); clear hst hrk hk hbt
      cases b with
      | true =>
        go_wp2_with (go_at_call 11; (with_reducible refine (HRK _).out.mono ?_); rintro e w2 ⟨rfl, hb⟩)
        go_roundw
        case rel => exact ⟨j + 1, by go_num, hlt, vint (by rw [HST.out]; simp), bel_trans hbel hb⟩
        case measure => simp [intOf] <;> omega
      | false =>
        go_wp2_with (go_at_call 11; (with_reducible refine (HRK _).out.mono ?_); rintro e w2 ⟨rfl, hb⟩)
        go_roundw
        case rel => exact ⟨j + 1, by go_num, hlt, vint (by rw [HST.out]; simp), bel_trans hbel hb⟩
        case measure => simp [intOf] <;> omega
    · have hjl : j = zl.length := by omega
      have hzo := zer_ones (num (bmp zl)) zl.length
      rw [← hjl] at HCN hzo
      generalize zer (num (bmp zl)) j = k at *
      generalize ones (num (bmp zl)) j = q at *
      have hd : ((q : Int) == (zl.length : Int) - k) = true := beq_iff_eq.2 (by omega)
      have HJ := Lib.hid hjl; have HZ := Lib.hid hzo; clear hjl
      have hkl : k ≤ zl.length := by omega
      clear hzo
      have hB2 := hbel
      go_wp2_with (first
        | (go_at_call 13; refine (awake8_any _).mono ?_; rintro e w2 ⟨rfl, hb⟩; replace hB2 := bel_trans hB2 hb; clear hb)
        | (go_at_call 12; (with_reducible refine (HCN _).out.mono ?_); rintro e w' ⟨rfl, rfl⟩))
      go_ret
      exact RetB.mk rfl hB2
set_option maxRecDepth 100000 in
set_option maxHeartbeats 4000000 in
theorem nullsRankIsIndex_lifted (os : Os) (started : os.Started) (H : Type) (enc : TypeId × Value → H) :
    ReturnsInHanded {} Try.checked os 8 .any (Rows.nullsRankIsIndexSpec.pre6 enc Try.prog Try.f8 Rows.nullsRankIsIndexRow.domain false) (Rows.nullsRankIsIndexSpec.post enc Try.prog Try.f8 false true false false) := by
  refine law_lifted (C := Try.checked) (tb := 4) started Try.own Try.laidOut (by kernel_rfl) Try.func8
    (ChangeSpec.witness6 (enc := enc) (C := Try.checked) false ⟨#[], #[.slice none 0 0], []⟩ 8 (by kernel_rfl) (by kernel_rfl) (by kernel_rfl) (by kernel_rfl))
    rfl rfl Try.underlying4 (by kernel_rfl) (fun ds h => ?_) (fun W base args ds p hval0 hA0 hsz0 hlt => ?_)
  · have h' : ds.length = Try.f8.params.toList.length := h
    rw [Try.params8] at h'
    match ds, h' with
    | [_], _ => rfl
  · have hval : ∀ (j : Nat) t v, Try.f8.params[j]? = some t → args[j]? = some v → Value.okWide Try.prog W .any base t v := hval0
    have hA : DataW.TrodAll enc Try.prog W 0 (fun _ => true) true Try.f8.params.toList args.toList ds p := hA0
    have hsz : (DataW.weightsEach Try.prog Try.f8.params.toList ds).all (· ≤ reachBytes) = true := hsz0
    rw [Try.params8] at hA hval hsz
    clear hA0 hval0 hsz0
    obtain ⟨v0, vs0, d0, ds0, p0, q0, hargs, rfl, rfl, h0, r0⟩ := trodAll_cons hA
    obtain ⟨rfl, rfl, rfl⟩ := trodAll_nil r0
    obtain rfl : args = #[v0] := by cases args; simp_all
    obtain ⟨zl, rl, bl⟩ := open_rdB Try.underlying23 Try.underlying4 (by kernel_rfl) (hval 0 23 v0 rfl rfl) h0 hsz (j := 0) rfl rfl
    replace bl : zl.length ≤ 140737488351232 := by rw [show Try.prog.bytesOf 4 = 1 from by kernel_rfl, Nat.mul_one] at bl; exact bl
    change Calls Try.prog 8 #[v0] W (RetB (.bool true) W)
    exact nindex_walk v0 zl W rl bl
theorem nullsRankIsIndex_holds : Rows.NullsRankIsIndexSaid :=
  OpenClaim.holds_of_wide 8 Try.f8 rfl rfl rfl rfl rfl rfl rfl ⟨rfl, rfl, rfl, rfl, rfl⟩ rfl rfl rfl rfl rfl (by kernel_rfl) Try.func8 (by kernel_rfl)
    (of_decide_eq_true (by kernel_rfl)) (by unfold Func.isWrapper; first | (rw [if_pos (by decide +kernel)]; kernel_rfl) | (rw [if_neg (by decide +kernel)]; exact ⟨rfl, rfl⟩))
    (fun os started H enc _ => nullsRankIsIndex_lifted os started H enc)
end Go.Proofs.Yteodifbbgohkpaa
