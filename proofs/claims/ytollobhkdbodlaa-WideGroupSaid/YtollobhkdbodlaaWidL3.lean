/- WideGroup: addition is associative and commutative, Neg gives the inverse, 0 is neutral. No condition. -/
import Derived.Test.YtollobhkdbodlaaWidL1
namespace Go.Proofs.Ytollobhkdbodlaa
open Go.RowKit Go.VB Go.WD Go.DT Go.DC Go.ChangeShapes Go.WideShapes Go.ChangeAt
open Go.ChangeMaps (open_string)
set_option linter.constructorNameAsVariable false

set_option maxRecDepth 100000 in
set_option maxHeartbeats 4000000 in
theorem wideGroup_lifted (os : Os) (started : os.Started) (H : Type) (enc : TypeId × Value → H) :
    ReturnsInHanded {} Try.checked os 5 .any (Rows.wideGroupSpec.pre6 enc Try.prog Try.f5 Rows.wideGroupRow.domain false) (Rows.wideGroupSpec.post enc Try.prog Try.f5 false true false false) := by
  refine law_lifted (C := Try.checked) (tb := 4) started Try.own Try.laidOut (by kernel_rfl) Try.func5
    (ChangeSpec.witness6 (enc := enc) (C := Try.checked) false ⟨#[], #[.agg #[.int .i64 0, .int .u64 0], .agg #[.int .i64 0, .int .u64 0], .agg #[.int .i64 0, .int .u64 0]], []⟩ 8 (by kernel_rfl) (by kernel_rfl) (by kernel_rfl) (by kernel_rfl))
    rfl rfl Try.underlying4 (by kernel_rfl) (fun ds h => ?_) (fun W base args ds p hval0 hA0 hsz0 hlt => ?_)
  · have h' : ds.length = Try.f5.params.toList.length := h
    rw [Try.params5] at h'
    match ds, h' with
    | [_, _, _], _ => rfl
  · have hval : ∀ (j : Nat) t v, Try.f5.params[j]? = some t → args[j]? = some v → Value.okWide Try.prog W .any base t v := hval0
    have hA : DataW.TrodAll enc Try.prog W 0 (fun _ => true) true Try.f5.params.toList args.toList ds p := hA0
    have hsz : (DataW.weightsEach Try.prog Try.f5.params.toList ds).all (· ≤ reachBytes) = true := hsz0
    rw [Try.params5] at hA hval hsz
    clear hA0 hval0 hsz0
    obtain ⟨v0, vs0, d0, ds0, p0, q0, hargs, rfl, rfl, h0, r0⟩ := trodAll_cons hA
    obtain ⟨v1, vs1, d1, ds1, p1, q1, rfl, rfl, rfl, h1, r1⟩ := trodAll_cons r0
    obtain ⟨v2, vs2, d2, ds2, p2, q2, rfl, rfl, rfl, h2, r2⟩ := trodAll_cons r1
    obtain ⟨rfl, rfl, rfl⟩ := trodAll_nil r2
    obtain rfl : args = #[v0, v1, v2] := by cases args; simp_all
    obtain ⟨a, rfl, wa⟩ := open_wide (hval 0 24 v0 rfl rfl) h0
    obtain ⟨b, rfl, wb⟩ := open_wide (hval 1 24 v1 rfl rfl) h1
    obtain ⟨c, rfl, wc⟩ := open_wide (hval 2 24 v2 rfl rfl) h2
    change Calls Try.prog 5 #[wd a, wd b, wd c] W (RetB (.bool true) W)
    have hA := fun w => Lib.hid (awake13_any w)
    have g1 := fun w => Lib.hid (wadd_any a b w)
    have g2 := fun w => Lib.hid (wadd_any (a + b) c w)
    have g3 := fun w => Lib.hid (wadd_any b c w)
    have g4 := fun w => Lib.hid (wadd_any a (b + c) w)
    have g5 := fun w => Lib.hid (wadd_any b a w)
    have g6 := fun w => Lib.hid (wneg_any a w)
    have g7 := fun w => Lib.hid (wadd_any a (-a) w)
    have g8 := fun w => Lib.hid (wof_any 0 w (by unfold I64w; omega))
    have g9 := fun w => Lib.hid (wadd_any a 0 w)
    rw [← Int.add_assoc] at g4
    rw [Int.add_comm b a] at g5
    rw [show a + -a = 0 from by omega] at g7
    rw [Int.add_zero] at g9
    rw [wd_zero] at g7 g8 g9
    simp only [wd_is] at g1 g2 g3 g4 g5 g6 g7 g8 g9
    rw [wd_is a, wd_is b, wd_is c]
    clear wa wb wc
    generalize hi (a + b + c) = p9 at *
    generalize lo (a + b + c) = u9 at *
    generalize hi (a + b) = p8 at *
    generalize lo (a + b) = u8 at *
    generalize hi (b + c) = p7 at *
    generalize lo (b + c) = u7 at *
    generalize hi (-a) = p6 at *
    generalize lo (-a) = u6 at *
    generalize hi a = p at *
    generalize lo a = u at *
    generalize hi b = q at *
    generalize lo b = v at *
    generalize hi c = r at *
    generalize lo c = x at *
    have va := ((Var2.new W (.int .i64 p) (.int .u64 u) 24).alloc (.cells #[.int .i64 q, .int .u64 v] 24)).alloc (.cells #[.int .i64 r, .int .u64 x] 24)
    have vb := (Var2.new (W.alloc (.cells #[.int .i64 p, .int .u64 u] 24)) (.int .i64 q) (.int .u64 v) 24).alloc (.cells #[.int .i64 r, .int .u64 x] 24)
    have vc := Var2.new ((W.alloc (.cells #[.int .i64 p, .int .u64 u] 24)).alloc (.cells #[.int .i64 q, .int .u64 v] 24)) (.int .i64 r) (.int .u64 x) 24
    have hb0 : Below W.heap.size W (((W.alloc (.cells #[.int .i64 p, .int .u64 u] 24)).alloc (.cells #[.int .i64 q, .int .u64 v] 24)).alloc (.cells #[.int .i64 r, .int .u64 x] 24)) := by go_grown
    simp only [alloc_sz] at vb vc
    have HV := fun (w : World) (hb : Below (((W.alloc (.cells #[.int .i64 p, .int .u64 u] 24)).alloc (.cells #[.int .i64 q, .int .u64 v] 24)).alloc (.cells #[.int .i64 r, .int .u64 x] 24)).heap.size (((W.alloc (.cells #[.int .i64 p, .int .u64 u] 24)).alloc (.cells #[.int .i64 q, .int .u64 v] 24)).alloc (.cells #[.int .i64 r, .int .u64 x] 24)) w) => Lib.hid (And.intro (bel_trans hb0 hb) (And.intro (va.step hb) (And.intro (vb.step hb) (vc.step hb))))
    clear va vb vc hb0
    go_enter Try.func5, Try.ntmps5
    go_wp2_with fail
    refine Go.Confl.wp_region_confl (by simp only [List.map_cons, List.map_nil]; rfl) (by kernel_rfl) (by kernel_rfl) ?_
    iterate 39
      first
      | (refine Go.Confl.chain_skip (Go.Confl.unwanted_is rfl rfl) ?_)
      | (first | apply Go.Confl.chain_is _ (Go.Confl.wanted_none rfl) | apply Go.Confl.chain_is _ (Go.Confl.wanted_is rfl rfl)
         · intro b w hr hb K hK
           simp [Go.Confl.readFacts, Go.Confl.tmpsOf, Go.Confl.writerOf, Go.Confl.Is, Op.operands, Call.operands, List.findIdx?, List.findIdx?.go] at hr
           obtain ⟨-, ⟨a0, a1, -, -⟩, ⟨c0, c1, -, -⟩, ⟨d0, d1, -, -⟩⟩ := (HV _ hb).out
           go_wp2_with (first
             | (go_at_call 17; (with_reducible refine (hA _).out.mono ?_); rintro e w' ⟨rfl, hb'⟩)
             | (go_at_call 12; (with_reducible refine (g1 _).out.mono ?_); rintro e w' ⟨rfl, hb'⟩)
             | (go_at_call 12; (with_reducible refine (g2 _).out.mono ?_); rintro e w' ⟨rfl, hb'⟩)
             | (go_at_call 12; (with_reducible refine (g3 _).out.mono ?_); rintro e w' ⟨rfl, hb'⟩)
             | (go_at_call 12; (with_reducible refine (g4 _).out.mono ?_); rintro e w' ⟨rfl, hb'⟩)
             | (go_at_call 12; (with_reducible refine (g5 _).out.mono ?_); rintro e w' ⟨rfl, hb'⟩)
             | (go_at_call 12; (with_reducible refine (g7 _).out.mono ?_); rintro e w' ⟨rfl, hb'⟩)
             | (go_at_call 12; (with_reducible refine (g9 _).out.mono ?_); rintro e w' ⟨rfl, hb'⟩)
             | (go_at_call 20; (with_reducible refine (g6 _).out.mono ?_); rintro e w' ⟨rfl, hb'⟩)
             | (go_at_call 13; (with_reducible refine (g8 _).out.mono ?_); rintro e w' ⟨rfl, hb'⟩))
           try (simp only [hr]; go_wp2)
           exact hK _ _ rfl (by first | exact Below.refl _ _ | assumption))
      simp only [List.nil_append, List.cons_append]
    intro us w hp hb
    simp [Go.Confl.allPosts, Go.Confl.Is] at hp
    simp only [Go.Confl.putsFrom, hp, Act.put, List.setIfInBounds_toArray, List.set_cons_zero, List.set_cons_succ]
    go_wp2
    go_ret
    exact RetB.mk rfl (HV _ hb).out.1
theorem wideGroup_holds : Rows.WideGroupSaid :=
  OpenClaim.holds_of_wide 5 Try.f5 rfl rfl rfl rfl rfl rfl rfl ⟨rfl, rfl, rfl, rfl, rfl⟩ rfl rfl rfl rfl rfl (by kernel_rfl) Try.func5 (by kernel_rfl)
    (of_decide_eq_true (by kernel_rfl)) (by unfold Func.isWrapper; first | (rw [if_pos (by decide +kernel)]; kernel_rfl) | (rw [if_neg (by decide +kernel)]; exact ⟨rfl, rfl⟩))
    (fun os started H enc _ => wideGroup_lifted os started H enc)
end Go.Proofs.Ytollobhkdbodlaa
