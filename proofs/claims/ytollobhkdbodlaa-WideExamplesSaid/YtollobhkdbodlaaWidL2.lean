/- WideExamples, WideArithmetic, WideGroup: the example of chapter 13; all functions on numbers return the specified results; addition is a group. No condition. -/
import Derived.Test.YtollobhkdbodlaaWidL1
namespace Go.Proofs.Ytollobhkdbodlaa
open Go.RowKit Go.VB Go.WD Go.DT Go.DC Go.ChangeShapes Go.WideShapes Go.ChangeAt
open Go.ChangeMaps (open_string)
set_option linter.constructorNameAsVariable false

set_option maxRecDepth 100000 in
set_option maxHeartbeats 4000000 in
theorem wideExamples_lifted (os : Os) (started : os.Started) (H : Type) (enc : TypeId × Value → H) :
    ReturnsInHanded {} Try.checked os 3 .any (Rows.wideExamplesSpec.pre6 enc Try.prog Try.f3 Rows.wideExamplesRow.domain false) (Rows.wideExamplesSpec.post enc Try.prog Try.f3 false true false false) := by
  refine law_lifted (C := Try.checked) (tb := 4) started Try.own Try.laidOut (by kernel_rfl) Try.func3
    (ChangeSpec.witness6 (enc := enc) (C := Try.checked) false ⟨#[], #[], []⟩ 8 (by kernel_rfl) (by kernel_rfl) (by kernel_rfl) (by kernel_rfl))
    rfl rfl Try.underlying4 (by kernel_rfl) (fun ds h => ?_) (fun W base args ds p hval0 hA0 hsz0 hlt => ?_)
  · have h' : ds.length = Try.f3.params.toList.length := h
    rw [Try.params3] at h'
    match ds, h' with
    | [], _ => rfl
  · have hval : ∀ (j : Nat) t v, Try.f3.params[j]? = some t → args[j]? = some v → Value.okWide Try.prog W .any base t v := hval0
    have hA : DataW.TrodAll enc Try.prog W 0 (fun _ => true) true Try.f3.params.toList args.toList ds p := hA0
    have hsz : (DataW.weightsEach Try.prog Try.f3.params.toList ds).all (· ≤ reachBytes) = true := hsz0
    rw [Try.params3] at hA hval hsz
    clear hA0 hval0 hsz0
    obtain ⟨hargs, rfl, rfl⟩ := trodAll_nil hA
    obtain rfl : args = #[] := by cases args; simp_all
    change Calls Try.prog 3 #[] W (RetB (.bool true) W)
    have h1 := fun w => Lib.hid (wof_any 9223372036854775807 w (by unfold I64w; omega))
    have h2 := fun w => Lib.hid (wof_any 1 w (by unfold I64w; omega))
    have h3 := fun w => Lib.hid (wadd_any 9223372036854775807 1 w)
    rw [show (9223372036854775807 : Int) + 1 = 9223372036854775808 from rfl] at h3
    have h4 := fun w => Lib.hid (wint_any 9223372036854775808 w (by unfold W128; omega))
    have hi4 : ¬ I64w 9223372036854775808 := by unfold I64w; omega
    unfold intN at h4
    rw [if_neg hi4, decide_eq_false hi4] at h4
    have h5 := fun w => Lib.hid (wformat_any 9223372036854775808 w (by unfold W128; omega))
    rw [FT_63] at h5
    have e1 : wd 9223372036854775808 = .agg #[.int .i64 0, .int .u64 9223372036854775808] := by rw [wd_is, show hi 9223372036854775808 = 0 from by unfold hi wrap64; omega, show lo 9223372036854775808 = 9223372036854775808 from by unfold lo; omega]
    rw [e1] at h3 h4 h5
    clear e1 hi4
    generalize wd 9223372036854775807 = A at *
    generalize wd 1 = B at *
    have v1 := fun (w : World) => Var2.new w (.int .i64 0) (.int .u64 9223372036854775808) 24
    go_enter Try.func3, Try.ntmps3
    go_wp2_with (first
      | (go_at_call 13; (with_reducible refine (h1 _).out.mono ?_); rintro e w1 ⟨rfl, hb1⟩)
      | (go_at_call 13; (with_reducible refine (h2 _).out.mono ?_); rintro e w2 ⟨rfl, hb2⟩)
      | (go_at_call 12; (with_reducible refine (h3 _).out.mono ?_); rintro e w3 ⟨rfl, hb3⟩; have hbb3 := (bel_trans (bel_trans hb1 hb2) hb3).alloc (Nat.le_trans hb1.size (Nat.le_trans hb2.size hb3.size)) (.cells #[.int .i64 0, .int .u64 9223372036854775808] 24))
      | (go_at_call 14; (with_reducible refine (h4 _).out.mono ?_); rintro e w4 ⟨rfl, hb4⟩; obtain ⟨k0, k1, k2, k3⟩ := (v1 w3).step hb4; have hbb4 := bel_trans hbb3 hb4)
      | (go_at_call 15; (with_reducible refine (h5 _).out.mono ?_); rintro e w5 ⟨rfl, hb5⟩))
    go_ret
    exact RetB.mk rfl (bel_trans hbb4 hb5)
theorem wideExamples_holds : Rows.WideExamplesSaid :=
  OpenClaim.holds_of_wide 3 Try.f3 rfl rfl rfl rfl rfl rfl rfl ⟨rfl, rfl, rfl, rfl, rfl⟩ rfl rfl rfl rfl rfl (by kernel_rfl) Try.func3 (by kernel_rfl)
    (of_decide_eq_true (by kernel_rfl)) (by unfold Func.isWrapper; first | (rw [if_pos (by decide +kernel)]; kernel_rfl) | (rw [if_neg (by decide +kernel)]; exact ⟨rfl, rfl⟩))
    (fun os started H enc _ => wideExamples_lifted os started H enc)

set_option maxRecDepth 100000 in
set_option maxHeartbeats 4000000 in
theorem wideArithmetic_lifted (os : Os) (started : os.Started) (H : Type) (enc : TypeId × Value → H) :
    ReturnsInHanded {} Try.checked os 4 .any (Rows.wideArithmeticSpec.pre6 enc Try.prog Try.f4 Rows.wideArithmeticRow.domain false) (Rows.wideArithmeticSpec.post enc Try.prog Try.f4 false true false false) := by
  refine law_lifted (C := Try.checked) (tb := 4) started Try.own Try.laidOut (by kernel_rfl) Try.func4
    (ChangeSpec.witness6 (enc := enc) (C := Try.checked) false ⟨#[], #[.agg #[.int .i64 0, .int .u64 0], .agg #[.int .i64 0, .int .u64 0], .int .i64 0], []⟩ 8 (by kernel_rfl) (by kernel_rfl) (by kernel_rfl) (by kernel_rfl))
    rfl rfl Try.underlying4 (by kernel_rfl) (fun ds h => ?_) (fun W base args ds p hval0 hA0 hsz0 hlt => ?_)
  · have h' : ds.length = Try.f4.params.toList.length := h
    rw [Try.params4] at h'
    match ds, h' with
    | [_, _, _], _ => rfl
  · have hval : ∀ (j : Nat) t v, Try.f4.params[j]? = some t → args[j]? = some v → Value.okWide Try.prog W .any base t v := hval0
    have hA : DataW.TrodAll enc Try.prog W 0 (fun _ => true) true Try.f4.params.toList args.toList ds p := hA0
    have hsz : (DataW.weightsEach Try.prog Try.f4.params.toList ds).all (· ≤ reachBytes) = true := hsz0
    rw [Try.params4] at hA hval hsz
    clear hA0 hval0 hsz0
    obtain ⟨v0, vs0, d0, ds0, p0, q0, hargs, rfl, rfl, h0, r0⟩ := trodAll_cons hA
    obtain ⟨v1, vs1, d1, ds1, p1, q1, rfl, rfl, rfl, h1, r1⟩ := trodAll_cons r0
    obtain ⟨v2, vs2, d2, ds2, p2, q2, rfl, rfl, rfl, h2, r2⟩ := trodAll_cons r1
    obtain ⟨rfl, rfl, rfl⟩ := trodAll_nil r2
    obtain rfl : args = #[v0, v1, v2] := by cases args; simp_all
    obtain ⟨a, rfl, wa⟩ := open_wide (hval 0 24 v0 rfl rfl) h0
    obtain ⟨b, rfl, wb⟩ := open_wide (hval 1 24 v1 rfl rfl) h1
    obtain ⟨n, rfl, rfl, rfl, wn⟩ := open_int Try.underlying2 (hval 2 2 v2 rfl rfl) h2
    change Calls Try.prog 4 #[wd a, wd b, .int .i64 n] W (RetB (.bool true) W)
    have h64 : I64w n := by obtain ⟨h1, h2⟩ := bounds_i64 wn; unfold I64w; omega
    have h1 := fun w => Lib.hid (wint_any a w wa)
    have h2 := fun w => Lib.hid (rwint_any a w wa)
    have hA := fun w => Lib.hid (awake13_any w)
    have h3 := fun w => Lib.hid (wof_any n w h64)
    have h4 := fun w => Lib.hid (rwof_any n w h64)
    have h5 := fun w => Lib.hid (wadd_any a b w)
    have h6 := fun w => Lib.hid (rwadd_any a b w)
    have h7 := fun w => Lib.hid (wneg_any a w)
    have h8 := fun w => Lib.hid (rwneg_any a w)
    have h9 := fun w => Lib.hid (wcmp_any a b w wa wb)
    have hX := fun w => Lib.hid (rwcmp_any a b w wa wb)
    simp only [wd_is] at h1 h2 h3 h4 h5 h6 h7 h8 h9 hX
    rw [wd_is a, wd_is b]
    clear wn h64 wa wb
    generalize intN a = N1 at *
    generalize decide (I64w a) = B1 at *
    generalize cmpW a b = C1 at *
    generalize hi (a + b) = p9 at *
    generalize lo (a + b) = u9 at *
    generalize hi (-a) = p8 at *
    generalize lo (-a) = u8 at *
    generalize hi n = p7 at *
    generalize lo n = u7 at *
    generalize hi a = p at *
    generalize lo a = u at *
    generalize hi b = q at *
    generalize lo b = v at *
    have va := (Var2.new W (.int .i64 p) (.int .u64 u) 24).alloc (.cells #[.int .i64 q, .int .u64 v] 24)
    have vb := Var2.new (W.alloc (.cells #[.int .i64 p, .int .u64 u] 24)) (.int .i64 q) (.int .u64 v) 24
    have hb0 : Below W.heap.size W ((W.alloc (.cells #[.int .i64 p, .int .u64 u] 24)).alloc (.cells #[.int .i64 q, .int .u64 v] 24)) := by go_grown
    rw [alloc_sz] at vb
    have HV := fun (w : World) (hb : Below ((W.alloc (.cells #[.int .i64 p, .int .u64 u] 24)).alloc (.cells #[.int .i64 q, .int .u64 v] 24)).heap.size ((W.alloc (.cells #[.int .i64 p, .int .u64 u] 24)).alloc (.cells #[.int .i64 q, .int .u64 v] 24)) w) => Lib.hid (And.intro (bel_trans hb0 hb) (And.intro (va.step hb) (vb.step hb)))
    clear va vb hb0
    go_enter Try.func4, Try.ntmps4
    go_wp2_with fail
    refine (h1 _).out.mono ?_
    rintro e w1 ⟨rfl, hb1⟩
    obtain ⟨-, ⟨a0, a1, -, -⟩, -⟩ := (HV _ hb1).out
    go_wp2_with fail
    clear a0 a1
    refine (h2 _).out.mono ?_
    rintro e w2 ⟨rfl, hb2⟩
    replace hb2 := hb1.trans (hb2.mono hb1.size)
    clear hb1 h1 h2
    go_wp2_with fail
    refine Go.Confl.wp_region_confl (by simp only [List.map_cons, List.map_nil]; rfl) (by kernel_rfl) (by kernel_rfl) ?_
    iterate 44
      first
      | (refine Go.Confl.chain_skip (Go.Confl.unwanted_is rfl rfl) ?_)
      | (first | apply Go.Confl.chain_is _ (Go.Confl.wanted_none rfl) | apply Go.Confl.chain_is _ (Go.Confl.wanted_is rfl rfl)
         · intro b w hr hb K hK
           simp [Go.Confl.readFacts, Go.Confl.tmpsOf, Go.Confl.writerOf, Go.Confl.Is, Op.operands, Call.operands, List.findIdx?, List.findIdx?.go] at hr
           obtain ⟨-, ⟨a0, a1, -, -⟩, ⟨c0, c1, -, -⟩⟩ := (HV _ (hb2.trans (hb.mono hb2.size))).out
           go_wp2_with (first
             | (go_at_call 17; (with_reducible refine (hA _).out.mono ?_); rintro e w' ⟨rfl, hb'⟩)
             | (go_at_call 13; (with_reducible refine (h3 _).out.mono ?_); rintro e w' ⟨rfl, hb'⟩)
             | (go_at_call 18; (with_reducible refine (h4 _).out.mono ?_); rintro e w' ⟨rfl, hb'⟩)
             | (go_at_call 12; (with_reducible refine (h5 _).out.mono ?_); rintro e w' ⟨rfl, hb'⟩)
             | (go_at_call 19; (with_reducible refine (h6 _).out.mono ?_); rintro e w' ⟨rfl, hb'⟩)
             | (go_at_call 20; (with_reducible refine (h7 _).out.mono ?_); rintro e w' ⟨rfl, hb'⟩)
             | (go_at_call 21; (with_reducible refine (h8 _).out.mono ?_); rintro e w' ⟨rfl, hb'⟩)
             | (go_at_call 22; (with_reducible refine (h9 _).out.mono ?_); rintro e w' ⟨rfl, hb'⟩)
             | (go_at_call 23; (with_reducible refine (hX _).out.mono ?_); rintro e w' ⟨rfl, hb'⟩))
           try (simp only [hr]; go_wp2)
           exact hK _ _ rfl (by first | exact Below.refl _ _ | assumption))
      simp only [List.nil_append, List.cons_append]
    intro us w hp hb
    simp [Go.Confl.allPosts, Go.Confl.Is] at hp
    simp only [Go.Confl.putsFrom, hp, Act.put, List.setIfInBounds_toArray, List.set_cons_zero, List.set_cons_succ]
    go_wp2
    go_ret
    exact RetB.mk rfl (HV _ (hb2.trans (hb.mono hb2.size))).out.1
theorem wideArithmetic_holds : Rows.WideArithmeticSaid :=
  OpenClaim.holds_of_wide 4 Try.f4 rfl rfl rfl rfl rfl rfl rfl ⟨rfl, rfl, rfl, rfl, rfl⟩ rfl rfl rfl rfl rfl (by kernel_rfl) Try.func4 (by kernel_rfl)
    (of_decide_eq_true (by kernel_rfl)) (by unfold Func.isWrapper; first | (rw [if_pos (by decide +kernel)]; kernel_rfl) | (rw [if_neg (by decide +kernel)]; exact ⟨rfl, rfl⟩))
    (fun os started H enc _ => wideArithmetic_lifted os started H enc)
end Go.Proofs.Ytollobhkdbodlaa
