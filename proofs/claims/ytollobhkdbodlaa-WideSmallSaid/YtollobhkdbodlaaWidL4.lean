/- WideSmall, WideRoundTrip: numbers of 62 bits are added, negated and compared as integers; Parse reads what Format wrote. No condition. -/
import Derived.Test.YtollobhkdbodlaaWidL1
import Derived.Test.YtollobhkdbodlaaWidWA
namespace Go.WD
open Go.RowKit Go.VB Go.DT Go.DC
theorem cmp_lt {a b : Int} : decide (cmpW a b < 0) = decide (a < b) := by
  unfold cmpW
  rw [Bool.eq_iff_iff, decide_eq_true_iff, decide_eq_true_iff]
  split
  · omega
  · split <;> omega
theorem cmp_zero {a b : Int} : (cmpW a b == 0) = (a == b) := by
  unfold cmpW
  rw [Bool.eq_iff_iff, beq_iff_eq, beq_iff_eq]
  split
  · omega
  · split <;> omega
theorem ft_byte (z : Int) : bN (FT z) 0 = 45 ↔ z < 0 := by
  have h := ft_ngb z
  by_cases hz : z < 0
  · rw [decide_eq_true hz] at h
    exact ⟨fun _ => hz, fun _ => (of_decide_eq_true h).2⟩
  · refine ⟨fun h2 => ?_, fun h2 => absurd h2 hz⟩
    rw [ft_pos hz, wt_first] at h2
    omega
end Go.WD
namespace Go.Proofs.Ytollobhkdbodlaa
open Go.RowKit Go.VB Go.WD Go.DT Go.DC Go.ChangeShapes Go.WideShapes Go.ChangeAt
open Go.ChangeMaps (open_string)
set_option linter.constructorNameAsVariable false

set_option maxRecDepth 100000 in
set_option maxHeartbeats 4000000 in
theorem wideSmall_lifted (os : Os) (started : os.Started) (H : Type) (enc : TypeId × Value → H) :
    ReturnsInHanded {} Try.checked os 6 .any (Rows.wideSmallSpec.pre6 enc Try.prog Try.f6 Rows.wideSmallRow.domain false) (Rows.wideSmallSpec.post enc Try.prog Try.f6 false true false false) := by
  refine law_lifted (C := Try.checked) (tb := 4) started Try.own Try.laidOut (by kernel_rfl) Try.func6
    (ChangeSpec.witness6 (enc := enc) (C := Try.checked) false ⟨#[], #[.int .i64 0, .int .i64 0], []⟩ 8 (by kernel_rfl) (by kernel_rfl) (by kernel_rfl) (by kernel_rfl))
    rfl rfl Try.underlying4 (by kernel_rfl) (fun ds h => ?_) (fun W base args ds p hval0 hA0 hsz0 hlt => ?_)
  · have h' : ds.length = Try.f6.params.toList.length := h
    rw [Try.params6] at h'
    match ds, h' with
    | [_, _], _ => rfl
  · have hval : ∀ (j : Nat) t v, Try.f6.params[j]? = some t → args[j]? = some v → Value.okWide Try.prog W .any base t v := hval0
    have hA : DataW.TrodAll enc Try.prog W 0 (fun _ => true) true Try.f6.params.toList args.toList ds p := hA0
    have hsz : (DataW.weightsEach Try.prog Try.f6.params.toList ds).all (· ≤ reachBytes) = true := hsz0
    rw [Try.params6] at hA hval hsz
    clear hA0 hval0 hsz0
    obtain ⟨v0, vs0, d0, ds0, p0, q0, hargs, rfl, rfl, h0, r0⟩ := trodAll_cons hA
    obtain ⟨v1, vs1, d1, ds1, p1, q1, rfl, rfl, rfl, h1, r1⟩ := trodAll_cons r0
    obtain ⟨rfl, rfl, rfl⟩ := trodAll_nil r1
    obtain rfl : args = #[v0, v1] := by cases args; simp_all
    obtain ⟨m, rfl, rfl, rfl, wm⟩ := open_int Try.underlying2 (hval 0 2 v0 rfl rfl) h0
    obtain ⟨n, rfl, rfl, rfl, wn⟩ := open_int Try.underlying2 (hval 1 2 v1 rfl rfl) h1
    change Calls Try.prog 6 #[.int .i64 m, .int .i64 n] W (RetB (.bool true) W)
    obtain ⟨m1, m2⟩ := bounds_i64 wm
    obtain ⟨n1, n2⟩ := bounds_i64 wn
    obtain ⟨x, gx⟩ : ∃ x, x = m / 2 := ⟨_, rfl⟩
    obtain ⟨y, gy⟩ : ∃ y, y = n / 2 := ⟨_, rfl⟩
    have x1 : -4611686018427387904 ≤ x := by omega
    have x2 : x ≤ 4611686018427387903 := by omega
    have y1 : -4611686018427387904 ≤ y := by omega
    have y2 : y ≤ 4611686018427387903 := by omega
    have hA := fun w => Lib.hid (awake13_any w)
    have g1 := fun w => Lib.hid (wof_any x w (by unfold I64w; omega))
    have g2 := fun w => Lib.hid (wof_any y w (by unfold I64w; omega))
    have g3 := fun w => Lib.hid (wadd_any x y w)
    have g4 := fun w => Lib.hid (wint_any (x + y) w (by unfold W128; omega))
    have g5 := fun w => Lib.hid (wneg_any x w)
    have g6 := fun w => Lib.hid (wint_any (-x) w (by unfold W128; omega))
    have g7 := fun w => Lib.hid (wcmp_any x y w (by unfold W128; omega) (by unfold W128; omega))
    have i4 : I64w (x + y) := by unfold I64w; omega
    have i6 : I64w (-x) := by unfold I64w; omega
    unfold intN at g4 g6
    rw [if_pos i4, decide_eq_true i4] at g4
    rw [if_pos i6, decide_eq_true i6] at g6
    have hlt := cmp_lt (a := x) (b := y)
    have heq := cmp_zero (a := x) (b := y)
    have gx' := gx.symm
    have gy' := gy.symm
    clear wm wn gx gy i4 i6
    generalize cmpW x y = C at *
    generalize wd x = X at *
    generalize wd y = Y at *
    generalize wd (x + y) = XY at *
    generalize wd (-x) = NX at *
    go_enter Try.func6, Try.ntmps6
    go_wp2_with fail
    (with_reducible refine (g1 _).out.mono ?_)
    rintro e w1 ⟨rfl, hb1⟩
    have hB := hb1
    go_wp2_with fail
    (with_reducible refine (g2 _).out.mono ?_)
    rintro e w2 ⟨rfl, hb2⟩
    replace hB := bel_trans hB hb2
    clear hb2
    go_wp2_with fail
    (with_reducible refine (g3 _).out.mono ?_)
    rintro e w3 ⟨rfl, hb3⟩
    replace hB := bel_trans hB hb3
    clear hb3
    go_wp2_with fail
    (with_reducible refine (g4 _).out.mono ?_)
    rintro e w4 ⟨rfl, hb4⟩
    replace hB := bel_trans hB hb4
    clear hb4
    go_wp2_with fail
    (with_reducible refine (g1 _).out.mono ?_)
    rintro e w5 ⟨rfl, hb5⟩
    replace hB := bel_trans hB hb5
    clear hb5
    go_wp2_with fail
    (with_reducible refine (g5 _).out.mono ?_)
    rintro e w6 ⟨rfl, hb6⟩
    replace hB := bel_trans hB hb6
    clear hb6
    go_wp2_with fail
    (with_reducible refine (g6 _).out.mono ?_)
    rintro e w7 ⟨rfl, hb7⟩
    replace hB := bel_trans hB hb7
    clear hb7
    go_wp2_with fail
    (with_reducible refine (g1 _).out.mono ?_)
    rintro e w8 ⟨rfl, hb8⟩
    replace hB := bel_trans hB hb8
    clear hb8
    go_wp2_with fail
    (with_reducible refine (g2 _).out.mono ?_)
    rintro e w9 ⟨rfl, hb9⟩
    replace hB := bel_trans hB hb9
    clear hb9
    clear g1 g2 g3 g4 g5 g6
    go_wp2_with fail
    (with_reducible refine (g7 _).out.mono ?_)
    rintro e w10 ⟨rfl, hb10⟩
    replace hB := bel_trans hB hb10
    clear hb10
    go_wp2_with fail
    (with_reducible refine (hA _).out.mono ?_)
    rintro e w11 ⟨rfl, hb11⟩
    replace hB := bel_trans hB hb11
    clear hb11
    clear g7 hA
    go_wp2
    go_ret
    exact RetB.mk rfl hB
theorem wideSmall_holds : Rows.WideSmallSaid :=
  OpenClaim.holds_of_wide 6 Try.f6 rfl rfl rfl rfl rfl rfl rfl ⟨rfl, rfl, rfl, rfl, rfl⟩ rfl rfl rfl rfl rfl (by kernel_rfl) Try.func6 (by kernel_rfl)
    (of_decide_eq_true (by kernel_rfl)) (by unfold Func.isWrapper; first | (rw [if_pos (by decide +kernel)]; kernel_rfl) | (rw [if_neg (by decide +kernel)]; exact ⟨rfl, rfl⟩))
    (fun os started H enc _ => wideSmall_lifted os started H enc)

set_option maxRecDepth 100000 in
set_option maxHeartbeats 4000000 in
theorem wideRoundTrip_lifted (os : Os) (started : os.Started) (H : Type) (enc : TypeId × Value → H) :
    ReturnsInHanded {} Try.checked os 10 .any (Rows.wideRoundTripSpec.pre6 enc Try.prog Try.f10 Rows.wideRoundTripRow.domain false) (Rows.wideRoundTripSpec.post enc Try.prog Try.f10 false true false false) := by
  refine law_lifted (C := Try.checked) (tb := 4) started Try.own Try.laidOut (by kernel_rfl) Try.func10
    (ChangeSpec.witness6 (enc := enc) (C := Try.checked) false ⟨#[], #[.agg #[.int .i64 0, .int .u64 0]], []⟩ 8 (by kernel_rfl) (by kernel_rfl) (by kernel_rfl) (by kernel_rfl))
    rfl rfl Try.underlying4 (by kernel_rfl) (fun ds h => ?_) (fun W base args ds p hval0 hA0 hsz0 hlt => ?_)
  · have h' : ds.length = Try.f10.params.toList.length := h
    rw [Try.params10] at h'
    match ds, h' with
    | [_], _ => rfl
  · have hval : ∀ (j : Nat) t v, Try.f10.params[j]? = some t → args[j]? = some v → Value.okWide Try.prog W .any base t v := hval0
    have hA : DataW.TrodAll enc Try.prog W 0 (fun _ => true) true Try.f10.params.toList args.toList ds p := hA0
    have hsz : (DataW.weightsEach Try.prog Try.f10.params.toList ds).all (· ≤ reachBytes) = true := hsz0
    rw [Try.params10] at hA hval hsz
    clear hA0 hval0 hsz0
    obtain ⟨v0, vs0, d0, ds0, p0, q0, hargs, rfl, rfl, h0, r0⟩ := trodAll_cons hA
    obtain ⟨rfl, rfl, rfl⟩ := trodAll_nil r0
    obtain rfl : args = #[v0] := by cases args; simp_all
    obtain ⟨a, rfl, wa⟩ := open_wide (hval 0 24 v0 rfl rfl) h0
    change Calls Try.prog 10 #[wd a] W (RetB (.bool true) W)
    obtain ⟨r1, r2, r3, r4⟩ := ft_read wa
    obtain ⟨s1, s2⟩ := ft_size wa
    have hA := fun w => Lib.hid (awake13_any w)
    have g1 := fun w => Lib.hid (wformat_any a w wa)
    have g2 := fun w => Lib.hid (wparse_any (FT a) w (by omega))
    rw [r3, r4] at g2
    have hneg : a < 0 ↔ hi a < 0 := by unfold W128 at wa; unfold hi wrap64; omega
    have hby := (ft_byte a).trans hneg
    have hg := get_bN (FT a)
    have hb256 : bN (FT a) 0 < 256 := bN_lt _ 0
    have hbd : ((bN (FT a) 0 : Int) == 45) = decide (hi a < 0) := by rw [Bool.eq_iff_iff, beq_iff_eq, decide_eq_true_iff, ← hby]; omega
    have s3 : (0 : Int) < ((FT a).size : Int) := by omega
    simp only [wd_is] at g1 g2
    rw [wd_is]
    clear r1 r2 r3 r4 hneg hby wa s1
    generalize FT a = T at *
    generalize hi a = p at *
    generalize lo a = u at *
    generalize gV : bN T 0 = V at *
    have v1 := Var2.new W (.int .i64 p) (.int .u64 u) 24
    have hb0 : Below W.heap.size W (W.alloc (.cells #[.int .i64 p, .int .u64 u] 24)) := by go_grown
    go_enter Try.func10, Try.ntmps10
    go_wp2_with fail
    refine (g1 _).out.mono ?_
    rintro e w1 ⟨rfl, hb1⟩
    replace v1 := v1.step hb1
    replace hb0 := bel_trans hb0 hb1
    clear hb1
    go_wp2_with fail
    refine (g2 _).out.mono ?_
    rintro e w2 ⟨rfl, hb2⟩
    replace v1 := v1.step hb2
    replace hb0 := bel_trans hb0 hb2
    clear hb2
    have v2 := Var2.new w2 (.int .i64 p) (.int .u64 u) 24
    have hb3 := (Below.refl w2.heap.size w2).alloc (Nat.le_refl _) (.cells #[.int .i64 p, .int .u64 u] 24)
    replace v1 := v1.step hb3
    replace hb0 := bel_trans hb0 hb3
    clear hb3
    go_wp2_with fail
    have HV := fun (w : World) (hb : Below (w2.alloc (.cells #[.int .i64 p, .int .u64 u] 24)).heap.size (w2.alloc (.cells #[.int .i64 p, .int .u64 u] 24)) w) => Lib.hid (And.intro (bel_trans hb0 hb) (And.intro (v1.step hb) (v2.step hb)))
    clear v1 v2 hb0 g1 g2
    have s4 : 0 < T.size := by omega
    have s5 : decide (0 < T.size) = true := decide_eq_true s4
    refine Go.Confl.wp_region_confl (by simp only [List.map_cons, List.map_nil]; rfl) (by kernel_rfl) (by kernel_rfl) ?_
    iterate 25
      first
      | (refine Go.Confl.chain_skip (Go.Confl.unwanted_is rfl rfl) ?_)
      | (first | apply Go.Confl.chain_is _ (Go.Confl.wanted_none rfl) | apply Go.Confl.chain_is _ (Go.Confl.wanted_is rfl rfl)
         · intro b w hr hb K hK
           simp [Go.Confl.readFacts, Go.Confl.tmpsOf, Go.Confl.writerOf, Go.Confl.Is, Op.operands, Call.operands, List.findIdx?, List.findIdx?.go] at hr
           obtain ⟨-, ⟨a0, a1, -, -⟩, ⟨c0, c1, -, -⟩⟩ := (HV _ hb).out
           go_wp2_with (first
             | (go_at_call 17; (with_reducible refine (hA _).out.mono ?_); rintro e w' ⟨rfl, hb'⟩))
           try (simp only [hr]; go_wp2)
           exact hK _ _ rfl (by first | exact Below.refl _ _ | assumption))
      simp only [List.nil_append, List.cons_append]
    intro us w hp hb
    simp [Go.Confl.allPosts, Go.Confl.Is] at hp
    simp only [Go.Confl.putsFrom, hp, Act.put, List.setIfInBounds_toArray, List.set_cons_zero, List.set_cons_succ]
    go_wp2
    go_ret
    exact RetB.mk rfl (HV _ hb).out.1
theorem wideRoundTrip_holds : Rows.WideRoundTripSaid :=
  OpenClaim.holds_of_wide 10 Try.f10 rfl rfl rfl rfl rfl rfl rfl ⟨rfl, rfl, rfl, rfl, rfl⟩ rfl rfl rfl rfl rfl (by kernel_rfl) Try.func10 (by kernel_rfl)
    (of_decide_eq_true (by kernel_rfl)) (by unfold Func.isWrapper; first | (rw [if_pos (by decide +kernel)]; kernel_rfl) | (rw [if_neg (by decide +kernel)]; exact ⟨rfl, rfl⟩))
    (fun os started H enc _ => wideRoundTrip_lifted os started H enc)
end Go.Proofs.Ytollobhkdbodlaa
