/- ValueChecks: Check returns the specified error for arbitrary columns and values, and for values near the limits. No condition. -/
import Derived.Test.YtidlemedkjkmdaaValP
namespace Go.Proofs.Ytidlemedkjkmdaa
open Go.RowKit Go.VB Go.VL Go.ChangeShapes Go.WideShapes Go.ChangeAt
open Go.ChangeMaps (open_string)
set_option linter.constructorNameAsVariable false
set_option maxRecDepth 100000 in
set_option maxHeartbeats 8000000 in
theorem checks_walk (cnm : ByteArray) (cty csc : Int) (cnu vb : Bool) (vn : Int) (vs : ByteArray) (t k n : Int) (null : Bool) (s : ByteArray) (W : World)
    (wt : (Lit.int .i64 t).wf = true) (wk : (Lit.int .i64 k).wf = true) (wn : (Lit.int .i64 n).wf = true) :
    Calls Try.prog 3 #[(.agg #[.string cnm, .int .i64 cty, .int .i64 csc, .bool cnu]), (.agg #[.bool vb, .int .i64 vn, .string vs]), .int .i64 t, .int .i64 k, .int .i64 n, .bool null, .string s] W (RetB (.bool true) W) := by
  have H1 := fun w => Lib.hid (chk_any cnm cty csc cnu vb vn vs w)
  have H2 := fun w => Lib.hid (rchk_any cnm cty csc cnu vb vn vs w)
  have HC := fun w => Lib.hid (col_any t k null w wt wk)
  generalize ctyp t = dty at *
  generalize cscale t k = dsc at *
  have H3 := fun w => Lib.hid (chk_any xs dty dsc null vb vn vs w)
  have H4 := fun w => Lib.hid (rchk_any xs dty dsc null vb vn vs w)
  have HN := fun w => Lib.hid (near_any n ⟨#[]⟩ w wn)
  have HM := fun w => Lib.hid (near_any n s w wn)
  generalize nearB n = nb at *
  generalize nearN n = nn at *
  have H5 := fun w => Lib.hid (chk_any xs dty dsc null nb nn ⟨#[]⟩ w)
  have H6 := fun w => Lib.hid (rchk_any xs dty dsc null nb nn ⟨#[]⟩ w)
  have H7 := fun w => Lib.hid (chk_any xs dty dsc null nb nn s w)
  have H8 := fun w => Lib.hid (rchk_any xs dty dsc null nb nn s w)
  generalize chk cty cnu vb vn vs = r1 at *
  generalize chk dty null vb vn vs = r2 at *
  generalize chk dty null nb nn ⟨#[]⟩ = r3 at *
  generalize chk dty null nb nn s = r4 at *
  generalize xs = X at *
  have hAw := fun w => Lib.hid (awakeV_any w)
  have hVc := Var4.new W (.string cnm) (.int .i64 cty) (.int .i64 csc) (.bool cnu) 23
  have hVv := Var3.new (W.alloc (.cells #[.string cnm, .int .i64 cty, .int .i64 csc, .bool cnu] 23)) (.bool vb) (.int .i64 vn) (.string vs) 25
  replace hVc := hVc.step ((Below.refl _ _).alloc (Nat.le_refl _) (.cells #[.bool vb, .int .i64 vn, .string vs] 25))
  clear wt wk wn
  go_enter Try.func3, Try.ntmps3
  go_wp2_with fail
  refine (HC _).out.mono ?_
  rintro e w1 ⟨rfl, hb1⟩
  replace hVc := hVc.step hb1
  replace hVv := hVv.step hb1
  have hB : Below W.heap.size W w1 := bel_trans (by go_grown) hb1
  clear hb1 HC
  go_wp2_with fail
  have hVd := Var4.new w1 (.string X) (.int .i64 dty) (.int .i64 dsc) (.bool null) 23
  have hb2 := (Below.refl w1.heap.size w1).alloc (Nat.le_refl _) (.cells #[.string X, .int .i64 dty, .int .i64 dsc, .bool null] 23)
  replace hVc := hVc.step hb2
  replace hVv := hVv.step hb2
  replace hB := bel_trans hB hb2
  clear hb2
  generalize hW1 : w1.heap.size = d0 at *
  generalize hv0 : (W.alloc (.cells #[.string cnm, .int .i64 cty, .int .i64 csc, .bool cnu] 23)).heap.size = v0 at *
  have hv0' : v0 = W.heap.size + 1 := by rw [← hv0]; simp
  subst hv0'
  generalize hW2 : w1.alloc (.cells #[.string X, .int .i64 dty, .int .i64 dsc, .bool null] 23) = w2 at *
  have HVc := fun (w : World) (hb : Below w2.heap.size w2 w) => Lib.hid (hVc.step hb)
  have HVv := fun (w : World) (hb : Below w2.heap.size w2 w) => Lib.hid (hVv.step hb)
  have HVd := fun (w : World) (hb : Below w2.heap.size w2 w) => Lib.hid (hVd.step hb)
  clear hVc hVv hVd hv0 hW1 hW2
  refine Go.Confl.wp_region_confl (by simp only [List.map_cons, List.map_nil]; rfl) (by kernel_rfl) (by kernel_rfl) ?_
  iterate 44
    first
    | (refine Go.Confl.chain_skip (Go.Confl.unwanted_is rfl rfl) ?_)
    | (first | apply Go.Confl.chain_is _ (Go.Confl.wanted_none rfl) | apply Go.Confl.chain_is _ (Go.Confl.wanted_is rfl rfl)
       · intro b w hr hb K hK
         simp [Go.Confl.readFacts, Go.Confl.tmpsOf, Go.Confl.writerOf, Go.Confl.Is, Op.operands, Call.operands, List.findIdx?, List.findIdx?.go] at hr
         obtain ⟨k0, k1, k2, k3⟩ := (HVc _ hb).out
         obtain ⟨m0, m1, m2, _, _, _⟩ := (HVv _ hb).out
         obtain ⟨n0, n1, n2, n3⟩ := (HVd _ hb).out
         go_wp2_with (first
           | (go_at_call 10; refine (hAw _).out.mono ?_; rintro e w' ⟨rfl, hb'⟩)
           | (go_at_call 11; (with_reducible refine (H1 _).out.mono ?_); rintro e w' ⟨rfl, hb'⟩)
           | (go_at_call 12; (with_reducible refine (H2 _).out.mono ?_); rintro e w' ⟨rfl, hb'⟩)
           | (go_at_call 11; (with_reducible refine (H3 _).out.mono ?_); rintro e w' ⟨rfl, hb'⟩)
           | (go_at_call 12; (with_reducible refine (H4 _).out.mono ?_); rintro e w' ⟨rfl, hb'⟩)
           | (go_at_call 13; (with_reducible refine (HN _).out.mono ?_); rintro e w' ⟨rfl, hb'⟩)
           | (go_at_call 11; (with_reducible refine (H5 _).out.mono ?_); rintro e w' ⟨rfl, hb'⟩)
           | (go_at_call 12; (with_reducible refine (H6 _).out.mono ?_); rintro e w' ⟨rfl, hb'⟩)
           | (go_at_call 13; (with_reducible refine (HM _).out.mono ?_); rintro e w' ⟨rfl, hb'⟩)
           | (go_at_call 11; (with_reducible refine (H7 _).out.mono ?_); rintro e w' ⟨rfl, hb'⟩)
           | (go_at_call 12; (with_reducible refine (H8 _).out.mono ?_); rintro e w' ⟨rfl, hb'⟩))
         try (simp only [hr]; go_wp2)
         exact hK _ _ rfl (by first | exact Below.refl _ _ | assumption))
    simp only [List.nil_append, List.cons_append]
  intro us w hp hb
  simp [Go.Confl.allPosts, Go.Confl.Is] at hp
  simp only [Go.Confl.putsFrom, hp, Act.put, List.setIfInBounds_toArray, List.set_cons_zero, List.set_cons_succ]
  go_wp2
  go_ret
  exact RetB.mk rfl (bel_trans hB hb)
set_option maxRecDepth 100000 in
set_option maxHeartbeats 4000000 in
theorem valueChecks_lifted (os : Os) (started : os.Started) (H : Type) (enc : TypeId × Value → H) :
    ReturnsInHanded {} Try.checked os 3 .any (Rows.valueChecksSpec.pre6 enc Try.prog Try.f3 Rows.valueChecksRow.domain false) (Rows.valueChecksSpec.post enc Try.prog Try.f3 false true false false) := by
  refine law_lifted (C := Try.checked) (tb := 4) started Try.own Try.laidOut (by kernel_rfl) Try.func3
    (ChangeSpec.witness6 (enc := enc) (C := Try.checked) false ⟨#[], #[.agg #[.string ⟨#[]⟩, .int .i64 0, .int .i64 0, .bool false], .agg #[.bool false, .int .i64 0, .string ⟨#[]⟩], .int .i64 0, .int .i64 0, .int .i64 0, .bool false, .string ⟨#[]⟩], []⟩ 8 (by kernel_rfl) (by kernel_rfl) (by kernel_rfl) (by kernel_rfl))
    rfl rfl Try.underlying4 (by kernel_rfl) (fun ds h => ?_) (fun W base args ds p hval0 hA0 hsz0 hlt => ?_)
  · have h' : ds.length = Try.f3.params.toList.length := h
    rw [Try.params3] at h'
    match ds, h' with
    | [_, _, _, _, _, _, _], _ => rfl
  · have hval : ∀ (j : Nat) t v, Try.f3.params[j]? = some t → args[j]? = some v → Value.okWide Try.prog W .any base t v := hval0
    have hA : DataW.TrodAll enc Try.prog W 0 (fun _ => true) true Try.f3.params.toList args.toList ds p := hA0
    have hsz : (DataW.weightsEach Try.prog Try.f3.params.toList ds).all (· ≤ reachBytes) = true := hsz0
    rw [Try.params3] at hA hval hsz
    clear hA0 hval0 hsz0
    obtain ⟨v0, vs0, d0, ds0, p0, q0, hargs, rfl, rfl, h0, r0⟩ := trodAll_cons hA
    obtain ⟨v1, vs1, d1, ds1, p1, q1, rfl, rfl, rfl, h1, r1⟩ := trodAll_cons r0
    obtain ⟨v2, vs2, d2, ds2, p2, q2, rfl, rfl, rfl, h2, r2⟩ := trodAll_cons r1
    obtain ⟨v3, vs3, d3, ds3, p3, q3, rfl, rfl, rfl, h3, r3⟩ := trodAll_cons r2
    obtain ⟨v4, vs4, d4, ds4, p4, q4, rfl, rfl, rfl, h4, r4⟩ := trodAll_cons r3
    obtain ⟨v5, vs5, d5, ds5, p5, q5, rfl, rfl, rfl, h5, r5⟩ := trodAll_cons r4
    obtain ⟨v6, vs6, d6, ds6, p6, q6, rfl, rfl, rfl, h6, r6⟩ := trodAll_cons r5
    obtain ⟨rfl, rfl, rfl⟩ := trodAll_nil r6
    obtain rfl : args = #[v0, v1, v2, v3, v4, v5, v6] := by cases args; simp_all
    obtain ⟨cnm, cty, csc, cnu, rfl, wcty, wcsc, zcnm⟩ := open_col (hval 0 23 v0 rfl rfl) h0
    obtain ⟨vb, vn, vs, rfl, wvn, zvs⟩ := open_val (hval 1 25 v1 rfl rfl) h1
    obtain ⟨t, rfl, rfl, rfl, wt⟩ := open_int Try.underlying3 (hval 2 3 v2 rfl rfl) h2
    obtain ⟨k, rfl, rfl, rfl, wk⟩ := open_int Try.underlying3 (hval 3 3 v3 rfl rfl) h3
    obtain ⟨n, rfl, rfl, rfl, wn⟩ := open_int Try.underlying3 (hval 4 3 v4 rfl rfl) h4
    obtain ⟨null, rfl, rfl, rfl⟩ := open_bool Try.underlying4 (hval 5 4 v5 rfl rfl) h5
    obtain ⟨s, rfl, rfl, rfl, _⟩ := open_string Try.underlying9 (hval 6 9 v6 rfl rfl) h6
    have zs : s.size ≤ 140737488351232 := by have h := sized_string hsz (j := 6) (t := 9) rfl rfl; rw [size_list] at h; exact h
    change Calls Try.prog 3 #[(.agg #[.string cnm, .int .i64 cty, .int .i64 csc, .bool cnu]), (.agg #[.bool vb, .int .i64 vn, .string vs]), .int .i64 t, .int .i64 k, .int .i64 n, .bool null, .string s] W (RetB (.bool true) W)
    exact checks_walk cnm cty csc cnu vb vn vs t k n null s W wt wk wn
theorem valueChecks_holds : Rows.ValueChecksSaid :=
  OpenClaim.holds_of_wide 3 Try.f3 rfl rfl rfl rfl rfl rfl rfl ⟨rfl, rfl, rfl, rfl, rfl⟩ rfl rfl rfl rfl rfl (by kernel_rfl) Try.func3 (by kernel_rfl)
    (of_decide_eq_true (by kernel_rfl)) (by unfold Func.isWrapper; first | (rw [if_pos (by decide +kernel)]; kernel_rfl) | (rw [if_neg (by decide +kernel)]; exact ⟨rfl, rfl⟩))
    (fun os started H enc _ => valueChecks_lifted os started H enc)
end Go.Proofs.Ytidlemedkjkmdaa
