/- The walks over package wide: timesBase. -/
import Derived.Test.YtollobhkdbodlaaWidW1
import Derived.Test.YtollobhkdbodlaaConfl3
namespace Go.WD
open Go.RowKit Go.VB
def NewW (W : World) : Go.Confl.Post := fun v w => ∃ b, v = .pointer (some ⟨b, 0, none⟩) ∧ W.heap.size ≤ b ∧ Var2 w b (.int .i64 0) (.int .u64 0)
theorem NewW.stable (W : World) : Go.Confl.Stable (NewW W) := fun _ _ _ ⟨b, h1, h2, h3⟩ hb => ⟨b, h1, h2, h3.step hb⟩
end Go.WD
namespace Go.Proofs.Ytollobhkdbodlaa
open Go.RowKit Go.VB Go.WD
set_option maxRecDepth 100000 in
set_option maxHeartbeats 2000000 in
theorem wtimes_any (a : Int) (w : World) : Calls Try.prog 32 #[wd a] w (RetB (wd (10 * a)) w) := by
  have h1 := fun w => Lib.hid (wadd_any a a w)
  have h2 := fun w => Lib.hid (wadd_any (a + a) (a + a) w)
  have h3 := fun w => Lib.hid (wadd_any (a + a + (a + a)) a w)
  have h4 := fun w => Lib.hid (wadd_any (a + a + (a + a) + a) (a + a + (a + a) + a) w)
  rw [show a + a + (a + a) + a + (a + a + (a + a) + a) = 10 * a from by omega] at h4
  simp only [wd_is] at h1 h2 h3 h4
  rw [wd_is, wd_is]
  generalize hi (10 * a) = p9 at *
  generalize lo (10 * a) = u9 at *
  generalize hi (a + a + (a + a) + a) = p5 at *
  generalize lo (a + a + (a + a) + a) = u5 at *
  generalize hi (a + a + (a + a)) = p4 at *
  generalize lo (a + a + (a + a)) = u4 at *
  generalize hi (a + a) = p2 at *
  generalize lo (a + a) = u2 at *
  generalize hi a = p at *
  generalize lo a = u at *
  have v1 := (Var2.new w (.int .i64 p) (.int .u64 u) 24).alloc (.cells #[.int .i64 0, .int .u64 0] 24)
  have v2 := Var2.new (w.alloc (.cells #[.int .i64 p, .int .u64 u] 24)) (.int .i64 0) (.int .u64 0) 24
  have hb0 : Below w.heap.size w ((w.alloc (.cells #[.int .i64 p, .int .u64 u] 24)).alloc (.cells #[.int .i64 0, .int .u64 0] 24)) := by go_grown
  rw [alloc_sz] at v2
  go_enter Try.func32, Try.ntmps32
  go_wp2_with fail
  refine (h1 _).out.mono ?_
  rintro e w1 ⟨rfl, hb1⟩
  have hbb := bel_trans hb0 hb1
  replace v1 := v1.step hb1
  replace v2 := v2.step hb1
  clear hb0 hb1
  have v3 := Var2.new w1 (.int .i64 p2) (.int .u64 u2) 24
  replace hbb := bel_trans hbb ((Below.refl w1.heap.size w1).alloc (Nat.le_refl _) (.cells #[.int .i64 p2, .int .u64 u2] 24))
  replace v1 := v1.alloc (.cells #[.int .i64 p2, .int .u64 u2] 24)
  replace v2 := v2.alloc (.cells #[.int .i64 p2, .int .u64 u2] 24)
  go_wp2_with fail
  generalize w1.alloc (.cells #[.int .i64 p2, .int .u64 u2] 24) = w2 at *
  generalize w1.heap.size = b3 at *
  have HV := fun (w' : World) (hb : Below w2.heap.size w2 w') => Lib.hid (And.intro (bel_trans hbb hb) (And.intro (v1.step hb) (And.intro (v2.step hb) (v3.step hb))))
  clear hbb v1 v2 v3
  refine Go.ConflA.wp_region_tail_at 6 (by simp only [List.take_succ_cons, List.take_zero, List.map_cons, List.map_nil]; rfl) (by kernel_rfl) (by kernel_rfl) (by kernel_rfl) (by kernel_rfl) (by kernel_rfl) (Nat.zero_lt_succ _) (by kernel_rfl) ?_
  simp only [List.take_succ_cons, List.take_zero, List.drop_succ_cons, List.drop_zero]
  iterate 5
    first
    | (refine Go.ConflA.chainA_skip (Go.Confl.unwanted_is rfl rfl) ?_)
    | (first | apply Go.ConflA.chainA_is _ (Go.Confl.wanted_none rfl) | apply Go.ConflA.chainA_is _ (Go.Confl.wanted_is rfl rfl)
       · intro b w hr hb K hK
         simp [Go.Confl.readFacts, Go.Confl.tmpsOf, Go.Confl.writerOf, Go.Confl.Is, Op.operands, Call.operands, List.findIdx?, List.findIdx?.go] at hr
         obtain ⟨-, ⟨a0, a1, -, -⟩, -, ⟨d0, d1, -, -⟩⟩ := (HV _ hb).out
         go_wp2_with (first
           | (go_at_call 12; (with_reducible refine (h2 _).out.mono ?_); rintro e w' ⟨rfl, hb'⟩)
           | (go_at_call 12; (with_reducible refine (h3 _).out.mono ?_); rintro e w' ⟨rfl, hb'⟩))
         try (simp only [hr]; go_wp2)
         exact hK _ _ rfl (by first | exact Below.refl _ _ | assumption))
    simp only [List.nil_append, List.cons_append]
  apply Go.ConflA.chainA_any (NewW w2) (NewW.stable w2) (Go.Confl.wanted_none rfl)
  · intro f w hr hb K hK
    go_wp2_with fail
    exact hK _ _ ⟨_, rfl, hb.size, Var2.new w _ _ 24⟩ ((Below.refl _ _).alloc (Nat.le_refl _) _)
  simp only [List.nil_append, List.cons_append]
  intro us w hp hdist hb
  simp [Go.Confl.allPosts, Go.Confl.Is] at hp
  simp only [Go.Confl.putsFrom, Act.put, List.setIfInBounds_toArray, List.set_cons_zero, List.set_cons_succ]
  change wpList _ _ _ _ _ _
  obtain ⟨e0, e1, e2, e3, e4, ⟨g, e5, lg, Vg⟩⟩ := hp
  simp only [e0, e1, e2, e3, e4, e5]
  clear e0 e1 e2 e3 e4 e5 hdist h1 h2 h3
  have hb5 := set2_below hb lg (.int .i64 p5) (.int .u64 u5)
  have V5 := Vg.set (.int .i64 p5) (.int .u64 u5)
  obtain ⟨k0, k1, k2, k3⟩ := Vg
  obtain ⟨m0, m1, -, -⟩ := V5
  go_wp2_with fail
  clear k0 k1 k2 k3 m0 m1
  refine (h4 _).out.mono ?_
  rintro e w6 ⟨rfl, hb6⟩
  obtain ⟨hbb, -, ⟨c0, c1, c2, c3⟩, -⟩ := (HV _ (bel_trans hb5 hb6)).out
  clear HV hb5 hb6 hb
  go_wp2
  refine bodyPost_ret (v := .agg #[.int .i64 p9, .int .u64 u9]) (by simp [results, Try.results32, go_sem, c0, c1]) rfl ?_
  exact RetB.mk rfl (set2_below hbb (Nat.le_succ _) _ _)
end Go.Proofs.Ytollobhkdbodlaa
