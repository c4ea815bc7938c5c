/- WideOrder: Compare is a total order that agrees with subtraction, as long as nothing overflows. No condition. -/
import Derived.Test.YtollobhkdbodlaaWidL1
import Derived.Test.YtollobhkdbodlaaWidW6
namespace Go.WD
open Go.RowKit Go.VB Go.DT Go.DC
/-- The number whose upper half is halved. -/
def half (a : Int) : Int := two (hi a / 2) (lo a)
theorem half_in (a : Int) : -85070591730234615865843651857942052864 ≤ half a ∧ half a < 85070591730234615865843651857942052864 ∧ hi (half a) = hi a / 2 ∧ lo (half a) = lo a := by
  have h1 := hi_bd a
  have h2 := lo_bd a
  have h3 := two_in (h := hi a / 2) (l := lo a) (by omega) (by omega) h2.1 h2.2
  refine ⟨?_, ?_, h3.2.1, h3.2.2⟩
  · unfold half two; omega
  · unfold half two; omega
theorem cmp_sub {x y : Int} (hx : -85070591730234615865843651857942052864 ≤ x) (hx2 : x < 85070591730234615865843651857942052864) (hy : -85070591730234615865843651857942052864 ≤ y) (hy2 : y < 85070591730234615865843651857942052864) :
    decide (cmpW x y < 0) = decide (hi (x + -y) < 0) := by
  have h : cmpW x y < 0 ↔ x < y := by
    unfold cmpW
    split
    · omega
    · split <;> omega
  rw [Bool.eq_iff_iff, decide_eq_true_iff, decide_eq_true_iff, h]
  unfold hi wrap64; omega
theorem cmp_neg (x y : Int) : cmpW y x = -cmpW x y := by
  unfold cmpW
  rcases Int.lt_trichotomy x y with h | h | h
  · rw [if_neg (by omega), if_neg (by omega), if_pos h]; rfl
  · subst h; rw [if_neg (by omega), if_pos rfl]; rfl
  · rw [if_pos h, if_neg (by omega), if_neg (by omega)]
theorem cmp_bd (x y : Int) : -1 ≤ cmpW x y ∧ cmpW x y ≤ 1 := by
  unfold cmpW
  split
  · omega
  · split <;> omega
theorem cmp_same {x y : Int} (hx : W128 x) (hy : W128 y) : (cmpW x y == 0) = (hi x == hi y && lo x == lo y) := by
  have h := same_in hx hy
  unfold cmpW
  rw [Bool.eq_iff_iff, beq_iff_eq, Bool.and_eq_true, beq_iff_eq, beq_iff_eq, h]
  split
  · omega
  · split <;> omega
end Go.WD
namespace Go.Proofs.Ytollobhkdbodlaa
open Go.RowKit Go.VB Go.WD Go.DT Go.DC Go.ChangeShapes Go.WideShapes Go.ChangeAt
open Go.ChangeMaps (open_string)
set_option linter.constructorNameAsVariable false

set_option maxRecDepth 100000 in
set_option maxHeartbeats 4000000 in
theorem wideOrder_lifted (os : Os) (started : os.Started) (H : Type) (enc : TypeId × Value → H) :
    ReturnsInHanded {} Try.checked os 7 .any (Rows.wideOrderSpec.pre6 enc Try.prog Try.f7 Rows.wideOrderRow.domain false) (Rows.wideOrderSpec.post enc Try.prog Try.f7 false true false false) := by
  refine law_lifted (C := Try.checked) (tb := 4) started Try.own Try.laidOut (by kernel_rfl) Try.func7
    (ChangeSpec.witness6 (enc := enc) (C := Try.checked) false ⟨#[], #[.agg #[.int .i64 0, .int .u64 0], .agg #[.int .i64 0, .int .u64 0]], []⟩ 8 (by kernel_rfl) (by kernel_rfl) (by kernel_rfl) (by kernel_rfl))
    rfl rfl Try.underlying4 (by kernel_rfl) (fun ds h => ?_) (fun W base args ds p hval0 hA0 hsz0 hlt => ?_)
  · have h' : ds.length = Try.f7.params.toList.length := h
    rw [Try.params7] at h'
    match ds, h' with
    | [_, _], _ => rfl
  · have hval : ∀ (j : Nat) t v, Try.f7.params[j]? = some t → args[j]? = some v → Value.okWide Try.prog W .any base t v := hval0
    have hA : DataW.TrodAll enc Try.prog W 0 (fun _ => true) true Try.f7.params.toList args.toList ds p := hA0
    have hsz : (DataW.weightsEach Try.prog Try.f7.params.toList ds).all (· ≤ reachBytes) = true := hsz0
    rw [Try.params7] at hA hval hsz
    clear hA0 hval0 hsz0
    obtain ⟨v0, vs0, d0, ds0, p0, q0, hargs, rfl, rfl, h0, r0⟩ := trodAll_cons hA
    obtain ⟨v1, vs1, d1, ds1, p1, q1, rfl, rfl, rfl, h1, r1⟩ := trodAll_cons r0
    obtain ⟨rfl, rfl, rfl⟩ := trodAll_nil r1
    obtain rfl : args = #[v0, v1] := by cases args; simp_all
    obtain ⟨a, rfl, wa⟩ := open_wide (hval 0 24 v0 rfl rfl) h0
    obtain ⟨b, rfl, wb⟩ := open_wide (hval 1 24 v1 rfl rfl) h1
    change Calls Try.prog 7 #[wd a, wd b] W (RetB (.bool true) W)
    obtain ⟨x1, x2, x3, x4⟩ := half_in a
    obtain ⟨y1, y2, y3, y4⟩ := half_in b
    have hp := hi_bd a
    have hq := hi_bd b
    rw [wd_is a, wd_is b]
    rw [← x4, ← y4]
    have wx : W128 (half a) := by unfold W128; omega
    have wy : W128 (half b) := by unfold W128; omega
    have hA := fun w => Lib.hid (awake13_any w)
    have g1 := fun w => Lib.hid (wcmp_any (half a) (half b) w wx wy)
    have g2 := fun w => Lib.hid (wneg_any (half b) w)
    have g3 := fun w => Lib.hid (wadd_any (half a) (-half b) w)
    have g4 := fun w => Lib.hid (wcmp_any (half b) (half a) w wy wx)
    rw [cmp_neg (half a) (half b)] at g4
    have f1 := cmp_sub x1 x2 y1 y2
    have f2 := cmp_same wx wy
    have f3 := cmp_bd (half a) (half b)
    simp only [wd_is] at g1 g2 g3 g4
    clear wa wb wx wy x1 x2 y1 y2 x4 y4
    generalize cmpW (half a) (half b) = C at *
    generalize hi (half a + -half b) = p9 at *
    generalize lo (half a + -half b) = u9 at *
    generalize hi (-half b) = p8 at *
    generalize lo (-half b) = u8 at *
    generalize hi (half a) = p at *
    generalize lo (half a) = u at *
    generalize hi (half b) = q at *
    generalize lo (half b) = v at *
    generalize hi a = P at *
    generalize hi b = Q at *
    obtain ⟨c1, c2⟩ := f3
    have x3' := x3.symm
    have y3' := y3.symm
    clear x3 y3
    have va := (Var2.new W (.int .i64 P) (.int .u64 u) 24).alloc (.cells #[.int .i64 Q, .int .u64 v] 24)
    have vb := Var2.new (W.alloc (.cells #[.int .i64 P, .int .u64 u] 24)) (.int .i64 Q) (.int .u64 v) 24
    have hb0 : Below W.heap.size W ((W.alloc (.cells #[.int .i64 P, .int .u64 u] 24)).alloc (.cells #[.int .i64 Q, .int .u64 v] 24)) := by go_grown
    rw [alloc_sz] at vb
    go_enter Try.func7, Try.ntmps7
    go_wp2_with fail
    obtain ⟨a0, a1, a2, a3⟩ := va.drew
    obtain ⟨b0, b1, b2, b3⟩ := vb.drew
    go_region
    clear a0 a1 a2 a3 b0 b1 b2 b3 va vb hb0 x3' y3'
    have va := ((Var2.new W (.int .i64 p) (.int .u64 u) 24).alloc (.cells #[.int .i64 q, .int .u64 v] 24)).drew
    have vb := (Var2.new (W.alloc (.cells #[.int .i64 p, .int .u64 u] 24)) (.int .i64 q) (.int .u64 v) 24).drew
    have hb0 : Below W.heap.size W ((W.alloc (.cells #[.int .i64 p, .int .u64 u] 24)).alloc (.cells #[.int .i64 q, .int .u64 v] 24)).drew := by go_grown
    rw [alloc_sz] at vb
    go_wp2_with fail
    (with_reducible refine (g1 _).out.mono ?_)
    rintro e w1 ⟨rfl, hb1⟩
    replace va := va.step hb1
    replace vb := vb.step hb1
    replace hb0 := bel_trans hb0 hb1
    clear hb1 g1
    have HV := fun (w' : World) (hb : Below w1.heap.size w1 w') => Lib.hid (And.intro (bel_trans hb0 hb) (And.intro (va.step hb) (vb.step hb)))
    clear va vb hb0
    go_wp2_with fail
    refine Go.ConflA.wp_region_tail_at 5 (by simp only [List.take_succ_cons, List.take_zero, List.map_cons, List.map_nil]; rfl) (by kernel_rfl) (by kernel_rfl) (by kernel_rfl) (by kernel_rfl) (by kernel_rfl) (Nat.zero_lt_succ _) (by kernel_rfl) ?_
    simp only [List.take_succ_cons, List.take_zero, List.drop_succ_cons, List.drop_zero]
    iterate 4
      first
      | (refine Go.ConflA.chainA_skip (Go.Confl.unwanted_is rfl rfl) ?_)
      | (first | apply Go.ConflA.chainA_is _ (Go.Confl.wanted_none rfl) | apply Go.ConflA.chainA_is _ (Go.Confl.wanted_is rfl rfl)
         · intro b w hr hb K hK
           simp [Go.Confl.readFacts, Go.Confl.tmpsOf, Go.Confl.writerOf, Go.Confl.Is, Op.operands, Call.operands, List.findIdx?, List.findIdx?.go] at hr
           obtain ⟨-, ⟨a0, a1, -, -⟩, ⟨d0, d1, -, -⟩⟩ := (HV _ hb).out
           go_wp2_with (first
             | (go_at_call 20; (with_reducible refine (g2 _).out.mono ?_); rintro e w' ⟨rfl, hb'⟩)
             | (go_at_call 12; (with_reducible refine (g3 _).out.mono ?_); rintro e w' ⟨rfl, hb'⟩))
           try (simp only [hr]; go_wp2)
           exact hK _ _ rfl (by first | exact Below.refl _ _ | assumption))
      simp only [List.nil_append, List.cons_append]
    apply Go.ConflA.chainA_any (NewW w1) (NewW.stable w1) (Go.Confl.wanted_none rfl)
    · intro f w hr hb K hK
      go_wp2_with fail
      exact hK _ _ ⟨_, rfl, hb.size, Var2.new w _ _ 24⟩ ((Below.refl _ _).alloc (Nat.le_refl _) _)
    simp only [List.nil_append, List.cons_append]
    intro us w hp hdist hb
    simp [Go.Confl.allPosts, Go.Confl.Is] at hp
    simp only [Go.Confl.putsFrom, Act.put, List.setIfInBounds_toArray, List.set_cons_zero, List.set_cons_succ]
    change wpList _ _ _ _ _ _
    obtain ⟨e0, e1, e2, e3, ⟨g, e4, lg, Vg⟩⟩ := hp
    simp only [e0, e1, e2, e3, e4]
    clear e0 e1 e2 e3 e4 hdist g2 g3
    have hb5 := set2_below hb lg (.int .i64 p9) (.int .u64 u9)
    have V5 := Vg.set (.int .i64 p9) (.int .u64 u9)
    obtain ⟨k0, k1, k2, k3⟩ := Vg
    go_wp2_with fail
    clear k0 k1 k2 k3
    (with_reducible refine (hA _).out.mono ?_)
    rintro e w6 ⟨rfl, hb6⟩
    replace V5 := V5.step hb6
    replace hb5 := bel_trans hb5 hb6
    clear hb6 hA hb
    obtain ⟨-, ⟨a0, a1, -, -⟩, ⟨d0, d1, -, -⟩⟩ := (HV _ hb5).out
    go_wp2_with fail
    clear a0 a1 d0 d1
    (with_reducible refine (g4 _).out.mono ?_)
    rintro e w7 ⟨rfl, hb7⟩
    replace V5 := V5.step hb7
    replace hb5 := bel_trans hb5 hb7
    clear hb7 g4
    obtain ⟨hbb, ⟨a0, a1, -, -⟩, ⟨d0, d1, -, -⟩⟩ := (HV _ hb5).out
    obtain ⟨m0, m1, -, -⟩ := V5
    by_cases hpq : p = q
    · subst hpq
      by_cases huv : u = v
      · subst huv
        have f3 : (C == 0) = true := by rw [f2]; simp
        clear f2
        go_wp2
        go_ret
        exact RetB.mk rfl hbb
      · have hd : (u == v) = false := beq_eq_false_iff_ne.2 huv
        have f3 : (C == 0) = false := by rw [f2, hd]; simp
        clear f2 huv
        go_wp2
        go_ret
        exact RetB.mk rfl hbb
    · have hd : (p == q) = false := beq_eq_false_iff_ne.2 hpq
      have f3 : (C == 0) = false := by rw [f2, hd]; simp
      clear f2 hpq
      go_wp2
      go_ret
      exact RetB.mk rfl hbb
theorem wideOrder_holds : Rows.WideOrderSaid :=
  OpenClaim.holds_of_wide 7 Try.f7 rfl rfl rfl rfl rfl rfl rfl ⟨rfl, rfl, rfl, rfl, rfl⟩ rfl rfl rfl rfl rfl (by kernel_rfl) Try.func7 (by kernel_rfl)
    (of_decide_eq_true (by kernel_rfl)) (by unfold Func.isWrapper; first | (rw [if_pos (by decide +kernel)]; kernel_rfl) | (rw [if_neg (by decide +kernel)]; exact ⟨rfl, rfl⟩))
    (fun os started H enc _ => wideOrder_lifted os started H enc)
end Go.Proofs.Ytollobhkdbodlaa
