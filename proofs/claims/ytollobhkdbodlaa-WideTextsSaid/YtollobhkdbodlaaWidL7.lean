/- WideLimits: the texts of the numbers around the limits are read as specified. No condition. -/
import Derived.Test.YtollobhkdbodlaaWidL1
import Derived.Test.YtollobhkdbodlaaWidWB
import Derived.Test.YtollobhkdbodlaaWidWD
namespace Go.WD
open Go.RowKit Go.VB Go.DT Go.DC
theorem cut10k {P : Program} {t : TypeId} (h : P.underlying t = some .string) (k k' : IntKind) {R : Nat} (hR : R < 10) (w : World) :
    (Instr.slice t (.string ⟨#[48, 49, 50, 51, 52, 53, 54, 55, 56, 57]⟩) (some (.int k (R : Int))) (some (.int k' ((R : Int) + 1))) none).run P w = .ok (.string ((⟨#[48, 49, 50, 51, 52, 53, 54, 55, 56, 57]⟩ : ByteArray).extract R (R + 1))) w := by
  have h10 : (⟨#[48, 49, 50, 51, 52, 53, 54, 55, 56, 57]⟩ : ByteArray).size = 10 := rfl
  generalize (⟨#[48, 49, 50, 51, 52, 53, 54, 55, 56, 57]⟩ : ByteArray) = s at *
  have := run_slice_string (P := P) w t s k k' (R : Int) ((R : Int) + 1) h (by omega) (by omega) (by omega)
  rw [Int.toNat_natCast, show ((R : Int) + 1).toNat = R + 1 from by omega] at this
  exact this
theorem cut_last {P : Program} {t : TypeId} (h : P.underlying t = some .string) {s : ByteArray} (hs : 1 ≤ s.size) (w : World) :
    (Instr.slice t (.string s) none (some (.int .i64 ((s.size : Int) - 1))) none).run P w = .ok (.string (s.extract 0 (s.size - 1))) w := by
  have := run_slice_string_h (P := P) w t s h .i64 ((s.size : Int) - 1) (by omega) (by omega)
  rw [show ((s.size : Int) - 1).toNat = s.size - 1 from by omega] at this
  exact this
end Go.WD
namespace Go.Proofs.Ytollobhkdbodlaa
open Go.RowKit Go.VB Go.WD Go.DT Go.DC Go.ChangeShapes Go.WideShapes Go.ChangeAt
open Go.ChangeMaps (open_string)
set_option linter.constructorNameAsVariable false
set_option maxRecDepth 100000 in
set_option maxHeartbeats 4000000 in
theorem limits_pos (n : Int) (W : World) (wn : (Lit.int .i64 n).wf = true) : Calls Try.prog 9 #[.int .i64 n, .bool false] W (RetB (.bool true) W) := by
  have wz : W128 170141183460469231731687303715884105727 := by unfold W128; omega
  have ez : wd 170141183460469231731687303715884105727 = .agg #[.int .i64 9223372036854775807, .int .u64 18446744073709551615] := by rw [wd_is, show hi 170141183460469231731687303715884105727 = 9223372036854775807 from by unfold hi wrap64; omega, show lo 170141183460469231731687303715884105727 = 18446744073709551615 from by unfold lo; omega]
  obtain ⟨r1, r2, r3, r4⟩ := ft_read wz
  obtain ⟨s1, s2⟩ := ft_size wz
  have hA := fun w => Lib.hid (awake13_any w)
  have hP := fun w => Lib.hid (pick_at n 10 w wn (by decide) (by decide))
  have hk := pickN_bd n (n := 10) (by decide)
  generalize pickN n 10 = K at *
  obtain ⟨K, rfl⟩ := Int.eq_ofNat_of_zero_le hk.1
  have hK : K < 10 := by omega
  have g1 := fun w => Lib.hid (rwformat_any 170141183460469231731687303715884105727 w wz)
  have g4 := fun w => Lib.hid (wparse_any (FT 170141183460469231731687303715884105727) w (by omega))
  have g5 := fun w => Lib.hid (wformat_any 170141183460469231731687303715884105727 w wz)
  rw [r3, r4] at g4
  rw [ez] at g1 g4 g5
  clear r1 r2 r3 r4 hk wn ez wz
  generalize FT 170141183460469231731687303715884105727 = T0 at *
  have hs1 := fun w => cut_last (P := Try.prog) Try.underlying9 s2 w
  have hT1 : (T0.extract 0 (T0.size - 1)).size ≤ 40 := by rw [ByteArray.size_extract]; omega
  generalize T0.extract 0 (T0.size - 1) = T1 at *
  have hx := digit_text hK
  have hs2 := fun w => cut10k (P := Try.prog) Try.underlying9 .i64 .i64 hK w
  rw [hx] at hs2
  have hDs : (str [UInt8.ofNat (48 + K)]).size = 1 := by rw [str_size]; rfl
  clear hx
  generalize str [UInt8.ofNat (48 + K)] = Dg at *
  have hadd := fun w => run_string_add_sum (P := Try.prog) w T1 Dg (by omega)
  have hT2 : (T1 ++ Dg).size ≤ 41 := by rw [ByteArray.size_append]; omega
  generalize T1 ++ Dg = T2 at *
  have g2 := fun w => Lib.hid (wparse_any T2 w (by omega))
  have g3 := fun w => Lib.hid (rwparse_any T2 w (by omega))
  simp only [wd_is] at g2 g3
  generalize hi (WN T2) = p at *
  generalize lo (WN T2) = u at *
  generalize WC T2 = c at *
  have s3 : (1 : Int) ≤ (T0.size : Int) := by omega
  have v5 := Var2.new W (.int .i64 9223372036854775807) (.int .u64 18446744073709551615) 24
  have hb0 : Below W.heap.size W (W.alloc (.cells #[.int .i64 9223372036854775807, .int .u64 18446744073709551615] 24)) := by go_grown
  go_enter Try.func9, Try.ntmps9
  go_wp2_with fail
  (with_reducible refine (g1 _).out.mono ?_)
  rintro e w1 ⟨rfl, hb1⟩
  replace v5 := v5.step hb1
  replace hb0 := bel_trans hb0 hb1
  clear hb1 g1
  go_wp2_with fail
  have HV := fun (w' : World) (hb : Below w1.heap.size w1 w') => Lib.hid (And.intro (bel_trans hb0 hb) (v5.step hb))
  clear v5 hb0
  refine Go.Confl.wp_region_confl (by simp only [List.map_cons, List.map_nil]; rfl) (by kernel_rfl) (by kernel_rfl) ?_
  iterate 13
    first
    | (refine Go.Confl.chain_skip (Go.Confl.unwanted_is rfl rfl) ?_)
    | (first | apply Go.Confl.chain_is _ (Go.Confl.wanted_none rfl) | apply Go.Confl.chain_is _ (Go.Confl.wanted_is rfl rfl)
       · intro b w hr hb K hK
         simp [Go.Confl.readFacts, Go.Confl.tmpsOf, Go.Confl.writerOf, Go.Confl.Is, Op.operands, Call.operands, List.findIdx?, List.findIdx?.go] at hr
         go_wp2_with (first
           | (go_at_call 27; (with_reducible refine (hP _).out.mono ?_); rintro e w' ⟨rfl, rfl⟩))
         try (simp only [hr]; go_wp2)
         exact hK _ _ rfl (by first | exact Below.refl _ _ | assumption))
    simp only [List.nil_append, List.cons_append]
  intro us w hp hb
  simp [Go.Confl.allPosts, Go.Confl.Is] at hp
  simp only [Go.Confl.putsFrom, hp, Act.put, List.setIfInBounds_toArray, List.set_cons_zero, List.set_cons_succ]
  obtain ⟨hb0, v5⟩ := (HV _ hb).out
  clear HV hb hp hP hs1 hs2 hadd
  go_wp2_with fail
  (with_reducible refine (g2 _).out.mono ?_)
  rintro e w2 ⟨rfl, hb2⟩
  have hq0 := bel_trans hb2 ((Below.refl w2.heap.size w2).alloc (Nat.le_refl _) (.cells #[.int .i64 p, .int .u64 u] 24))
  replace v5 := v5.step hq0
  replace hb0 := bel_trans hb0 hq0
  have v6 := Var2.new w2 (.int .i64 p) (.int .u64 u) 24
  clear hq0 g2
  go_wp2_with fail
  (with_reducible refine (g3 _).out.mono ?_)
  rintro e w3 ⟨rfl, hb3⟩
  have hq1 := bel_trans hb3 ((Below.refl w3.heap.size w3).alloc (Nat.le_refl _) (.cells #[.int .i64 p, .int .u64 u] 24))
  replace v5 := v5.step hq1
  replace v6 := v6.step hq1
  replace hb0 := bel_trans hb0 hq1
  have v7 := Var2.new w3 (.int .i64 p) (.int .u64 u) 24
  clear hq1 g3
  go_wp2_with fail
  (with_reducible refine (g4 _).out.mono ?_)
  rintro e w4 ⟨rfl, hb4⟩
  have hq2 := bel_trans hb4 ((Below.refl w4.heap.size w4).alloc (Nat.le_refl _) (.cells #[.int .i64 9223372036854775807, .int .u64 18446744073709551615] 24))
  replace v5 := v5.step hq2
  replace v6 := v6.step hq2
  replace v7 := v7.step hq2
  replace hb0 := bel_trans hb0 hq2
  have v8 := Var2.new w4 (.int .i64 9223372036854775807) (.int .u64 18446744073709551615) 24
  clear hq2 g4
  go_wp2_with fail
  (with_reducible refine (hA _).out.mono ?_)
  rintro e w8 ⟨rfl, hb8⟩
  replace v5 := v5.step hb8
  replace v6 := v6.step hb8
  replace v7 := v7.step hb8
  replace v8 := v8.step hb8
  replace hb0 := bel_trans hb0 hb8
  obtain ⟨k0, m0, -, -⟩ := v5
  obtain ⟨k1, m1, -, -⟩ := v6
  obtain ⟨k2, m2, -, -⟩ := v7
  obtain ⟨k3, m3, -, -⟩ := v8
  go_wp2_with fail
  (with_reducible refine (g5 _).out.mono ?_)
  rintro e w9 ⟨rfl, hb9⟩
  go_wp2
  go_ret
  exact RetB.mk rfl (bel_trans hb0 hb9)
set_option maxRecDepth 100000 in
set_option maxHeartbeats 4000000 in
theorem limits_neg (n : Int) (W : World) (wn : (Lit.int .i64 n).wf = true) : Calls Try.prog 9 #[.int .i64 n, .bool true] W (RetB (.bool true) W) := by
  have wz : W128 (-170141183460469231731687303715884105728) := by unfold W128; omega
  have ez : wd (-170141183460469231731687303715884105728) = .agg #[.int .i64 (-9223372036854775808), .int .u64 0] := by rw [wd_is, show hi (-170141183460469231731687303715884105728) = (-9223372036854775808) from by unfold hi wrap64; omega, show lo (-170141183460469231731687303715884105728) = 0 from by unfold lo; omega]
  obtain ⟨r1, r2, r3, r4⟩ := ft_read wz
  obtain ⟨s1, s2⟩ := ft_size wz
  have hA := fun w => Lib.hid (awake13_any w)
  have hP := fun w => Lib.hid (pick_at n 10 w wn (by decide) (by decide))
  have hk := pickN_bd n (n := 10) (by decide)
  generalize pickN n 10 = K at *
  obtain ⟨K, rfl⟩ := Int.eq_ofNat_of_zero_le hk.1
  have hK : K < 10 := by omega
  have g1 := fun w => Lib.hid (rwformat_any (-170141183460469231731687303715884105728) w wz)
  have g4 := fun w => Lib.hid (wparse_any (FT (-170141183460469231731687303715884105728)) w (by omega))
  have g5 := fun w => Lib.hid (wformat_any (-170141183460469231731687303715884105728) w wz)
  rw [r3, r4] at g4
  rw [ez] at g1 g4 g5
  clear r1 r2 r3 r4 hk wn ez wz
  generalize FT (-170141183460469231731687303715884105728) = T0 at *
  have hs1 := fun w => cut_last (P := Try.prog) Try.underlying9 s2 w
  have hT1 : (T0.extract 0 (T0.size - 1)).size ≤ 40 := by rw [ByteArray.size_extract]; omega
  generalize T0.extract 0 (T0.size - 1) = T1 at *
  have hx := digit_text hK
  have hs2 := fun w => cut10k (P := Try.prog) Try.underlying9 .i64 .i64 hK w
  rw [hx] at hs2
  have hDs : (str [UInt8.ofNat (48 + K)]).size = 1 := by rw [str_size]; rfl
  clear hx
  generalize str [UInt8.ofNat (48 + K)] = Dg at *
  have hadd := fun w => run_string_add_sum (P := Try.prog) w T1 Dg (by omega)
  have hT2 : (T1 ++ Dg).size ≤ 41 := by rw [ByteArray.size_append]; omega
  generalize T1 ++ Dg = T2 at *
  have g2 := fun w => Lib.hid (wparse_any T2 w (by omega))
  have g3 := fun w => Lib.hid (rwparse_any T2 w (by omega))
  simp only [wd_is] at g2 g3
  generalize hi (WN T2) = p at *
  generalize lo (WN T2) = u at *
  generalize WC T2 = c at *
  have s3 : (1 : Int) ≤ (T0.size : Int) := by omega
  have v5 := Var2.new W (.int .i64 (-9223372036854775808)) (.int .u64 0) 24
  have hb0 : Below W.heap.size W (W.alloc (.cells #[.int .i64 (-9223372036854775808), .int .u64 0] 24)) := by go_grown
  go_enter Try.func9, Try.ntmps9
  go_wp2_with fail
  (with_reducible refine (g1 _).out.mono ?_)
  rintro e w1 ⟨rfl, hb1⟩
  replace v5 := v5.step hb1
  replace hb0 := bel_trans hb0 hb1
  clear hb1 g1
  go_wp2_with fail
  have HV := fun (w' : World) (hb : Below w1.heap.size w1 w') => Lib.hid (And.intro (bel_trans hb0 hb) (v5.step hb))
  clear v5 hb0
  refine Go.Confl.wp_region_confl (by simp only [List.map_cons, List.map_nil]; rfl) (by kernel_rfl) (by kernel_rfl) ?_
  iterate 13
    first
    | (refine Go.Confl.chain_skip (Go.Confl.unwanted_is rfl rfl) ?_)
    | (first | apply Go.Confl.chain_is _ (Go.Confl.wanted_none rfl) | apply Go.Confl.chain_is _ (Go.Confl.wanted_is rfl rfl)
       · intro b w hr hb K hK
         simp [Go.Confl.readFacts, Go.Confl.tmpsOf, Go.Confl.writerOf, Go.Confl.Is, Op.operands, Call.operands, List.findIdx?, List.findIdx?.go] at hr
         go_wp2_with (first
           | (go_at_call 27; (with_reducible refine (hP _).out.mono ?_); rintro e w' ⟨rfl, rfl⟩))
         try (simp only [hr]; go_wp2)
         exact hK _ _ rfl (by first | exact Below.refl _ _ | assumption))
    simp only [List.nil_append, List.cons_append]
  intro us w hp hb
  simp [Go.Confl.allPosts, Go.Confl.Is] at hp
  simp only [Go.Confl.putsFrom, hp, Act.put, List.setIfInBounds_toArray, List.set_cons_zero, List.set_cons_succ]
  obtain ⟨hb0, v5⟩ := (HV _ hb).out
  clear HV hb hp hP hs1 hs2 hadd
  go_wp2_with fail
  (with_reducible refine (g2 _).out.mono ?_)
  rintro e w2 ⟨rfl, hb2⟩
  have hq0 := bel_trans hb2 ((Below.refl w2.heap.size w2).alloc (Nat.le_refl _) (.cells #[.int .i64 p, .int .u64 u] 24))
  replace v5 := v5.step hq0
  replace hb0 := bel_trans hb0 hq0
  have v6 := Var2.new w2 (.int .i64 p) (.int .u64 u) 24
  clear hq0 g2
  go_wp2_with fail
  (with_reducible refine (g3 _).out.mono ?_)
  rintro e w3 ⟨rfl, hb3⟩
  have hq1 := bel_trans hb3 ((Below.refl w3.heap.size w3).alloc (Nat.le_refl _) (.cells #[.int .i64 p, .int .u64 u] 24))
  replace v5 := v5.step hq1
  replace v6 := v6.step hq1
  replace hb0 := bel_trans hb0 hq1
  have v7 := Var2.new w3 (.int .i64 p) (.int .u64 u) 24
  clear hq1 g3
  go_wp2_with fail
  (with_reducible refine (g4 _).out.mono ?_)
  rintro e w4 ⟨rfl, hb4⟩
  have hq2 := bel_trans hb4 ((Below.refl w4.heap.size w4).alloc (Nat.le_refl _) (.cells #[.int .i64 (-9223372036854775808), .int .u64 0] 24))
  replace v5 := v5.step hq2
  replace v6 := v6.step hq2
  replace v7 := v7.step hq2
  replace hb0 := bel_trans hb0 hq2
  have v8 := Var2.new w4 (.int .i64 (-9223372036854775808)) (.int .u64 0) 24
  clear hq2 g4
  go_wp2_with fail
  (with_reducible refine (hA _).out.mono ?_)
  rintro e w8 ⟨rfl, hb8⟩
  replace v5 := v5.step hb8
  replace v6 := v6.step hb8
  replace v7 := v7.step hb8
  replace v8 := v8.step hb8
  replace hb0 := bel_trans hb0 hb8
  obtain ⟨k0, m0, -, -⟩ := v5
  obtain ⟨k1, m1, -, -⟩ := v6
  obtain ⟨k2, m2, -, -⟩ := v7
  obtain ⟨k3, m3, -, -⟩ := v8
  go_wp2_with fail
  (with_reducible refine (g5 _).out.mono ?_)
  rintro e w9 ⟨rfl, hb9⟩
  go_wp2
  go_ret
  exact RetB.mk rfl (bel_trans hb0 hb9)

set_option maxRecDepth 100000 in
set_option maxHeartbeats 4000000 in
theorem wideLimits_lifted (os : Os) (started : os.Started) (H : Type) (enc : TypeId × Value → H) :
    ReturnsInHanded {} Try.checked os 9 .any (Rows.wideLimitsSpec.pre6 enc Try.prog Try.f9 Rows.wideLimitsRow.domain false) (Rows.wideLimitsSpec.post enc Try.prog Try.f9 false true false false) := by
  refine law_lifted (C := Try.checked) (tb := 4) started Try.own Try.laidOut (by kernel_rfl) Try.func9
    (ChangeSpec.witness6 (enc := enc) (C := Try.checked) false ⟨#[], #[.int .i64 0, .bool false], []⟩ 8 (by kernel_rfl) (by kernel_rfl) (by kernel_rfl) (by kernel_rfl))
    rfl rfl Try.underlying4 (by kernel_rfl) (fun ds h => ?_) (fun W base args ds p hval0 hA0 hsz0 hlt => ?_)
  · have h' : ds.length = Try.f9.params.toList.length := h
    rw [Try.params9] at h'
    match ds, h' with
    | [_, _], _ => rfl
  · have hval : ∀ (j : Nat) t v, Try.f9.params[j]? = some t → args[j]? = some v → Value.okWide Try.prog W .any base t v := hval0
    have hA : DataW.TrodAll enc Try.prog W 0 (fun _ => true) true Try.f9.params.toList args.toList ds p := hA0
    have hsz : (DataW.weightsEach Try.prog Try.f9.params.toList ds).all (· ≤ reachBytes) = true := hsz0
    rw [Try.params9] at hA hval hsz
    clear hA0 hval0 hsz0
    obtain ⟨v0, vs0, d0, ds0, p0, q0, hargs, rfl, rfl, h0, r0⟩ := trodAll_cons hA
    obtain ⟨v1, vs1, d1, ds1, p1, q1, rfl, rfl, rfl, h1, r1⟩ := trodAll_cons r0
    obtain ⟨rfl, rfl, rfl⟩ := trodAll_nil r1
    obtain rfl : args = #[v0, v1] := by cases args; simp_all
    obtain ⟨n, rfl, rfl, rfl, wn⟩ := open_int Try.underlying3 (hval 0 3 v0 rfl rfl) h0
    obtain ⟨neg, rfl, rfl, rfl⟩ := open_bool Try.underlying4 (hval 1 4 v1 rfl rfl) h1
    change Calls Try.prog 9 #[.int .i64 n, .bool neg] W (RetB (.bool true) W)
    cases neg
    · exact limits_pos n W wn
    · exact limits_neg n W wn
theorem wideLimits_holds : Rows.WideLimitsSaid :=
  OpenClaim.holds_of_wide 9 Try.f9 rfl rfl rfl rfl rfl rfl rfl ⟨rfl, rfl, rfl, rfl, rfl⟩ rfl rfl rfl rfl rfl (by kernel_rfl) Try.func9 (by kernel_rfl)
    (of_decide_eq_true (by kernel_rfl)) (by unfold Func.isWrapper; first | (rw [if_pos (by decide +kernel)]; kernel_rfl) | (rw [if_neg (by decide +kernel)]; exact ⟨rfl, rfl⟩))
    (fun os started H enc _ => wideLimits_lifted os started H enc)
end Go.Proofs.Ytollobhkdbodlaa
