/- ValueCompares: Compare returns the specified result for all types and values. No condition. -/
import Derived.Test.YtidlemedkjkmdaaValK
import Derived.Test.YtidlemedkjkmdaaValP
namespace Go.Proofs.Ytidlemedkjkmdaa
open Go.RowKit Go.VB Go.VL Go.ChangeShapes Go.WideShapes Go.ChangeAt
open Go.ChangeMaps (open_string)
set_option linter.constructorNameAsVariable false
set_option maxRecDepth 100000 in
set_option maxHeartbeats 8000000 in
theorem compares_walk (ty : Int) (ab : Bool) (an : Int) (as' : ByteArray) (bb : Bool) (bn : Int) (bs : ByteArray) (v3 v4 : Value) (zl zm : List Int) (W : World)
    (wty : (Lit.int .i64 ty).wf = true) (rl : RdI .i64 W W.heap.size v3 zl) (wl : ∀ z ∈ zl, (Lit.int .i64 z).wf = true) (rm : RdI .i64 W W.heap.size v4 zm) (wm : ∀ z ∈ zm, (Lit.int .i64 z).wf = true) :
    Calls Try.prog 4 #[.int .i64 ty, (.agg #[.bool ab, .int .i64 an, .string as']), (.agg #[.bool bb, .int .i64 bn, .string bs]), v3, v4] W (RetB (.bool true) W) := by
  have HC := fun w => Lib.hid (col_any ty 0 true w wty (by decide))
  have hct := ctyp_bd ty
  have hAw := fun w => Lib.hid (awakeV_any w)
  generalize ctyp ty = dty at *
  generalize cscale ty 0 = dsc at *
  have HX := fun (w : World) (hB : Below W.heap.size W w) => Lib.hid (kValue_any w v3 zl xs dty dsc true ((rl.below hB).more hB.size) wl hct)
  have HY := fun (w : World) (hB : Below W.heap.size W w) => Lib.hid (kValue_any w v4 zm xs dty dsc true ((rm.below hB).more hB.size) wm hct)
  have H1 := fun w => Lib.hid (cmp_any ty ab an as' bb bn bs w)
  have H2 := fun w => Lib.hid (rcmp_any ty ab an as' bb bn bs w)
  have H5 := fun w => Lib.hid (cmp_any dty ab an as' bb bn bs w)
  have H6 := fun w => Lib.hid (rcmp_any dty ab an as' bb bn bs w)
  generalize cmp ty ab an as' bb bn bs = r1 at *
  generalize cmp dty ab an as' bb bn bs = r3 at *
  generalize xs = X at *
  clear wty rl wl rm wm
  have hVa := Var3.new W (.bool ab) (.int .i64 an) (.string as') 25
  have hVb := Var3.new (W.alloc (.cells #[.bool ab, .int .i64 an, .string as'] 25)) (.bool bb) (.int .i64 bn) (.string bs) 25
  replace hVa := hVa.step ((Below.refl _ _).alloc (Nat.le_refl _) (.cells #[.bool bb, .int .i64 bn, .string bs] 25))
  go_enter Try.func4, Try.ntmps4
  go_wp2_with fail
  refine (HC _).out.mono ?_
  rintro e w1 ⟨rfl, hb1⟩
  replace hVa := hVa.step hb1
  replace hVb := hVb.step hb1
  have hB : Below W.heap.size W w1 := bel_trans (by go_grown) hb1
  clear hb1 HC
  go_wp2_with fail
  have hVd := Var4.new w1 (.string X) (.int .i64 dty) (.int .i64 dsc) (.bool true) 23
  have hb2 := (Below.refl w1.heap.size w1).alloc (Nat.le_refl _) (.cells #[.string X, .int .i64 dty, .int .i64 dsc, .bool true] 23)
  replace hVa := hVa.step hb2
  replace hVb := hVb.step hb2
  replace hB := bel_trans hB hb2
  clear hb2
  generalize hW1 : w1.heap.size = d0 at *
  generalize hv0 : (W.alloc (.cells #[.bool ab, .int .i64 an, .string as'] 25)).heap.size = v0 at *
  have hv0' : v0 = W.heap.size + 1 := by rw [← hv0]; simp
  subst hv0'
  generalize hW2 : w1.alloc (.cells #[.string X, .int .i64 dty, .int .i64 dsc, .bool true] 23) = w2 at *
  have HVd := fun (w : World) (hb : Below w2.heap.size w2 w) => Lib.hid (hVd.step hb)
  have HVa := fun (w : World) (hb : Below w2.heap.size w2 w) => Lib.hid (hVa.step hb)
  have HVb := fun (w : World) (hb : Below w2.heap.size w2 w) => Lib.hid (hVb.step hb)
  have HX' := fun (w : World) (hb : Below w2.heap.size w2 w) => HX w (bel_trans hB hb)
  have HY' := fun (w : World) (hb : Below w2.heap.size w2 w) => HY w (bel_trans hB hb)
  clear hv0 hW1 hW2 HX HY hVa hVb hVd
  refine Go.ConflA.wp_region_tail_at 8 (by simp only [List.take_succ_cons, List.take_zero, List.map_cons, List.map_nil]; rfl) (by kernel_rfl) (by kernel_rfl) (by kernel_rfl) (by kernel_rfl) (by kernel_rfl) (Nat.zero_lt_succ _) (by kernel_rfl) ?_
  simp only [List.take_succ_cons, List.take_zero, List.drop_succ_cons, List.drop_zero]
  iterate 2
    first
    | (refine Go.ConflA.chainA_skip (Go.Confl.unwanted_is rfl rfl) ?_)
    | (first | apply Go.ConflA.chainA_is _ (Go.Confl.wanted_none rfl) | apply Go.ConflA.chainA_is _ (Go.Confl.wanted_is rfl rfl)
       · intro b w hr hb K hK
         simp [Go.Confl.readFacts, Go.Confl.tmpsOf, Go.Confl.writerOf, Op.operands, List.findIdx?, List.findIdx?.go] at hr
         obtain ⟨n0, n1, n2, n3⟩ := (HVd _ hb).out
         go_wp2_with fail
         try (simp only [hr]; go_wp2)
         exact hK _ _ rfl (by first | exact Below.refl _ _ | assumption))
    simp only [List.nil_append, List.cons_append]
  apply Go.ConflA.chainA_any (VPost dty) (VPost.stable dty) (Go.Confl.wanted_none rfl)
  · intro f w hr hb K hK
    simp [Go.Confl.readFacts, Go.Confl.tmpsOf, Go.Confl.writerOf, Go.Confl.Is, Op.operands, Call.operands, List.findIdx?, List.findIdx?.go] at hr
    go_wp2_with fail
    refine (HX' _ hb).out.mono ?_
    rintro e w' ⟨nul, n, s, rfl, hv, hb'⟩
    exact hK _ _ ⟨nul, n, s, rfl, hv.1⟩ hb'
  simp only [List.nil_append, List.cons_append]
  iterate 2
    first
    | (refine Go.ConflA.chainA_skip (Go.Confl.unwanted_is rfl rfl) ?_)
    | (first | apply Go.ConflA.chainA_is _ (Go.Confl.wanted_none rfl) | apply Go.ConflA.chainA_is _ (Go.Confl.wanted_is rfl rfl)
       · intro b w hr hb K hK
         simp [Go.Confl.readFacts, Go.Confl.tmpsOf, Go.Confl.writerOf, Op.operands, List.findIdx?, List.findIdx?.go] at hr
         obtain ⟨n0, n1, n2, n3⟩ := (HVd _ hb).out
         go_wp2_with fail
         try (simp only [hr]; go_wp2)
         exact hK _ _ rfl (by first | exact Below.refl _ _ | assumption))
    simp only [List.nil_append, List.cons_append]
  apply Go.ConflA.chainA_any (VPost dty) (VPost.stable dty) (Go.Confl.wanted_none rfl)
  · intro f w hr hb K hK
    simp [Go.Confl.readFacts, Go.Confl.tmpsOf, Go.Confl.writerOf, Go.Confl.Is, Op.operands, Call.operands, List.findIdx?, List.findIdx?.go] at hr
    go_wp2_with fail
    refine (HY' _ hb).out.mono ?_
    rintro e w' ⟨nul, n, s, rfl, hv, hb'⟩
    exact hK _ _ ⟨nul, n, s, rfl, hv.1⟩ hb'
  simp only [List.nil_append, List.cons_append]
  iterate 2
    apply Go.ConflA.chainA_any (NewV w2) (NewV.stable w2) (Go.Confl.wanted_none rfl)
    · intro f w hr hb K hK
      go_wp2_with fail
      exact hK _ _ ⟨_, rfl, hb.size, Var3.new w _ _ _ 25⟩ ((Below.refl _ _).alloc (Nat.le_refl _) _)
    simp only [List.nil_append, List.cons_append]
  intro us w hp hdist hb
  simp [Go.Confl.allPosts, Go.Confl.Is] at hp
  simp only [Go.Confl.putsFrom, Act.put, List.setIfInBounds_toArray, List.set_cons_zero, List.set_cons_succ]
  change wpList _ _ _ _ _ _
  clear HX' HY'
  obtain ⟨e0, e1, ⟨xb, xn, xt, e2, hx⟩, e3, e4, ⟨yb, yn, yt, e5, hy⟩, ⟨gx, e6, lx, Vx⟩, ⟨gy, e7, ly, Vy⟩⟩ := hp
  have hne : gx ≠ gy := dist_ne (by have h := hdist 6 7 _ _ rfl rfl (by decide) rfl rfl; rw [e6, e7] at h; exact h)
  simp only [e0, e1, e2, e3, e4, e5, e6, e7]
  clear e0 e1 e2 e3 e4 e5 e6 e7 hdist
  have H3 := fun w => Lib.hid (cmp_any dty xb xn xt yb yn yt w)
  have H4 := fun w => Lib.hid (rcmp_any dty xb xn xt yb yn yt w)
  generalize cmp dty xb xn xt yb yn yt = r2 at *
  clear hx hy hct
  have Vy1 := Vy.other (Ne.symm hne) (.bool xb) (.int .i64 xn) (.string xt)
  have Vx5 := (Vx.set (.bool xb) (.int .i64 xn) (.string xt)).other hne (.bool yb) (.int .i64 yn) (.string yt)
  have Vy5 := Vy1.set (.bool yb) (.int .i64 yn) (.string yt)
  have hb5 := set3_below (set3_below hb lx (.bool xb) (.int .i64 xn) (.string xt)) ly (.bool yb) (.int .i64 yn) (.string yt)
  obtain ⟨k0, k1, k2, f0, f1, f2⟩ := Vx
  obtain ⟨m0, m1, m2, g0, g1, g2⟩ := Vy1
  go_wp2_with fail
  clear k0 k1 k2 f0 f1 f2 m0 m1 m2 g0 g1 g2 Vy
  have Va := (HVa _ hb5).out
  have Vb := (HVb _ hb5).out
  have Vd := (HVd _ hb5).out
  replace hB := bel_trans hB hb5
  clear HVa HVb HVd lx ly hb hb5 hne
  generalize (((((w.setCell ⟨gx, 0, none⟩ (.bool xb)).setCell ⟨gx, 1, none⟩ (.int .i64 xn)).setCell ⟨gx, 2, none⟩ (.string xt)).setCell ⟨gy, 0, none⟩ (.bool yb)).setCell ⟨gy, 1, none⟩ (.int .i64 yn)).setCell ⟨gy, 2, none⟩ (.string yt) = w5 at *
  have HV := fun (w : World) (hb : Below w5.heap.size w5 w) => Lib.hid (And.intro (Va.step hb) (And.intro (Vb.step hb) (And.intro (Vd.step hb) (And.intro (Vx5.step hb) (Vy5.step hb)))))
  clear Va Vb Vd Vx5 Vy5
  refine Go.Confl.wp_region_confl (by simp only [List.map_cons, List.map_nil]; rfl) (by kernel_rfl) (by kernel_rfl) ?_
  iterate 39
    first
    | (refine Go.Confl.chain_skip (Go.Confl.unwanted_is rfl rfl) ?_)
    | (first | apply Go.Confl.chain_is _ (Go.Confl.wanted_none rfl) | apply Go.Confl.chain_is _ (Go.Confl.wanted_is rfl rfl)
       · intro b w hr hb K hK
         simp [Go.Confl.readFacts, Go.Confl.tmpsOf, Go.Confl.writerOf, Go.Confl.Is, Op.operands, Call.operands, List.findIdx?, List.findIdx?.go] at hr
         obtain ⟨⟨k0, k1, k2, _, _, _⟩, ⟨m0, m1, m2, _, _, _⟩, ⟨n0, n1, n2, n3⟩, ⟨p0, p1, p2, _, _, _⟩, ⟨q0, q1, q2, _, _, _⟩⟩ := (HV _ hb).out
         go_wp2_with (first
           | (go_at_call 10; refine (hAw _).out.mono ?_; rintro e w' ⟨rfl, hb'⟩)
           | (go_at_call 15; (with_reducible refine (H1 _).out.mono ?_); rintro e w' ⟨rfl, hb'⟩)
           | (go_at_call 16; (with_reducible refine (H2 _).out.mono ?_); rintro e w' ⟨rfl, hb'⟩)
           | (go_at_call 15; (with_reducible refine (H3 _).out.mono ?_); rintro e w' ⟨rfl, hb'⟩)
           | (go_at_call 16; (with_reducible refine (H4 _).out.mono ?_); rintro e w' ⟨rfl, hb'⟩)
           | (go_at_call 15; (with_reducible refine (H5 _).out.mono ?_); rintro e w' ⟨rfl, hb'⟩)
           | (go_at_call 16; (with_reducible refine (H6 _).out.mono ?_); rintro e w' ⟨rfl, hb'⟩))
         try (simp only [hr]; go_wp2)
         exact hK _ _ rfl (by first | exact Below.refl _ _ | assumption))
    simp only [List.nil_append, List.cons_append]
  intro us w hp hb
  simp [Go.Confl.allPosts, Go.Confl.Is] at hp
  simp only [Go.Confl.putsFrom, hp, Act.put, List.setIfInBounds_toArray, List.set_cons_zero, List.set_cons_succ]
  go_wp2
  go_ret
  exact RetB.mk rfl (bel_trans hB hb)
set_option maxRecDepth 100000 in
set_option maxHeartbeats 4000000 in
theorem valueCompares_lifted (os : Os) (started : os.Started) (H : Type) (enc : TypeId × Value → H) :
    ReturnsInHanded {} Try.checked os 4 .any (Rows.valueComparesSpec.pre6 enc Try.prog Try.f4 Rows.valueComparesRow.domain false) (Rows.valueComparesSpec.post enc Try.prog Try.f4 false true false false) := by
  refine law_lifted (C := Try.checked) (tb := 4) started Try.own Try.laidOut (by kernel_rfl) Try.func4
    (ChangeSpec.witness6 (enc := enc) (C := Try.checked) false ⟨#[], #[.int .i64 0, .agg #[.bool false, .int .i64 0, .string ⟨#[]⟩], .agg #[.bool false, .int .i64 0, .string ⟨#[]⟩], .slice none 0 0, .slice none 0 0], []⟩ 8 (by kernel_rfl) (by kernel_rfl) (by kernel_rfl) (by kernel_rfl))
    rfl rfl Try.underlying4 (by kernel_rfl) (fun ds h => ?_) (fun W base args ds p hval0 hA0 hsz0 hlt => ?_)
  · have h' : ds.length = Try.f4.params.toList.length := h
    rw [Try.params4] at h'
    match ds, h' with
    | [_, _, _, _, _], _ => rfl
  · have hval : ∀ (j : Nat) t v, Try.f4.params[j]? = some t → args[j]? = some v → Value.okWide Try.prog W .any base t v := hval0
    have hA : DataW.TrodAll enc Try.prog W 0 (fun _ => true) true Try.f4.params.toList args.toList ds p := hA0
    have hsz : (DataW.weightsEach Try.prog Try.f4.params.toList ds).all (· ≤ reachBytes) = true := hsz0
    rw [Try.params4] at hA hval hsz
    clear hA0 hval0 hsz0
    obtain ⟨v0, vs0, d0, ds0, p0, q0, hargs, rfl, rfl, h0, r0⟩ := trodAll_cons hA
    obtain ⟨v1, vs1, d1, ds1, p1, q1, rfl, rfl, rfl, h1, r1⟩ := trodAll_cons r0
    obtain ⟨v2, vs2, d2, ds2, p2, q2, rfl, rfl, rfl, h2, r2⟩ := trodAll_cons r1
    obtain ⟨v3, vs3, d3, ds3, p3, q3, rfl, rfl, rfl, h3, r3⟩ := trodAll_cons r2
    obtain ⟨v4, vs4, d4, ds4, p4, q4, rfl, rfl, rfl, h4, r4⟩ := trodAll_cons r3
    obtain ⟨rfl, rfl, rfl⟩ := trodAll_nil r4
    obtain rfl : args = #[v0, v1, v2, v3, v4] := by cases args; simp_all
    obtain ⟨typ, rfl, rfl, rfl, wtyp⟩ := open_int Try.underlying3 (hval 0 3 v0 rfl rfl) h0
    obtain ⟨xb, xn, xs, rfl, wxn, zxs⟩ := open_val (hval 1 25 v1 rfl rfl) h1
    obtain ⟨yb, yn, ys, rfl, wyn, zys⟩ := open_val (hval 2 25 v2 rfl rfl) h2
    obtain ⟨zl, rl, wl, bl⟩ := open_rdI Try.underlying32 Try.underlying3 (by kernel_rfl) (hval 3 32 v3 rfl rfl) h3 hsz (j := 3) rfl rfl
    obtain ⟨zm, rm, wm, bm⟩ := open_rdI Try.underlying32 Try.underlying3 (by kernel_rfl) (hval 4 32 v4 rfl rfl) h4 hsz (j := 4) rfl rfl
    change Calls Try.prog 4 #[.int .i64 typ, (.agg #[.bool xb, .int .i64 xn, .string xs]), (.agg #[.bool yb, .int .i64 yn, .string ys]), v3, v4] W (RetB (.bool true) W)
    exact compares_walk typ xb xn xs yb yn ys v3 v4 zl zm W wtyp rl wl rm wm
theorem valueCompares_holds : Rows.ValueComparesSaid :=
  OpenClaim.holds_of_wide 4 Try.f4 rfl rfl rfl rfl rfl rfl rfl ⟨rfl, rfl, rfl, rfl, rfl⟩ rfl rfl rfl rfl rfl (by kernel_rfl) Try.func4 (by kernel_rfl)
    (of_decide_eq_true (by kernel_rfl)) (by unfold Func.isWrapper; first | (rw [if_pos (by decide +kernel)]; kernel_rfl) | (rw [if_neg (by decide +kernel)]; exact ⟨rfl, rfl⟩))
    (fun os started H enc _ => valueCompares_lifted os started H enc)
end Go.Proofs.Ytidlemedkjkmdaa
