/- ValueFormats: Format returns the specified text or error for arbitrary columns and values. Its row lists the tables of strconv and bits: a tied card. -/
import Derived.Test.YtidlemedkjkmdaaDoorValG
import Derived.Test.YtidlemedkjkmdaaDoorValD
import Derived.Test.YtidlemedkjkmdaaDoorValK
namespace Go.Proofs.YtidlemedkjkmdaaDoor
open Go.RowKit Go.VB Go.VL Go.ChangeShapes Go.WideShapes Go.ChangeAt
open Go.ChangeMaps (open_string)
set_option linter.constructorNameAsVariable false
theorem FR_spell (ty sc : Int) (nu nul : Bool) (n : Int) (s : ByteArray) : FR ty sc nu nul n s = .tuple #[.string (FG ty sc nu nul n s), .int .i64 (FGC ty sc nu nul n s : Nat)] := rfl
set_option maxRecDepth 100000 in
set_option maxHeartbeats 8000000 in
theorem formats_walk (cnm : ByteArray) (cty csc : Int) (cnu : Bool) (vb : Bool) (vn : Int) (vs : ByteArray) (t k : Int) (null : Bool) (v5 : Value) (zl : List Int) (W : World) (wvn : (Lit.int .i64 vn).wf = true) (wt : (Lit.int .i64 t).wf = true) (wk : (Lit.int .i64 k).wf = true)
    (rl : RdI .i64 W W.heap.size v5 zl) (wl : ∀ z ∈ zl, (Lit.int .i64 z).wf = true) (ht : TabOk W) :
    Calls Tryd.prog 4 #[(.agg #[.string cnm, .int .i64 cty, .int .i64 csc, .bool cnu]), (.agg #[.bool vb, .int .i64 vn, .string vs]), .int .i64 t, .int .i64 k, .bool null, v5] W (RetB (.bool true) W) := by
  have HCC := fun w => Lib.hid (col_any t k null w wt wk)
  have hct := ctyp_bd t
  have hAw := fun w => Lib.hid (awakeV_any w)
  generalize ctyp t = dty at *
  generalize cscale t k = dsc at *
  have HKV := fun (w : World) (hB : Below W.heap.size W w) => Lib.hid (kValue_any w v5 zl xs dty dsc null ((rl.below hB).more hB.size) wl hct)
  generalize xs = X at *
  have HT := fun (w : World) (hB : Below W.heap.size W w) => Lib.hid (ht.step hB)
  have HWV := Lib.hid wvn
  have hVc := Var4.new W (.string cnm) (.int .i64 cty) (.int .i64 csc) (.bool cnu) 26
  have hVv := Var3.new (W.alloc (.cells #[.string cnm, .int .i64 cty, .int .i64 csc, .bool cnu] 26)) (.bool vb) (.int .i64 vn) (.string vs) 28
  replace hVc := hVc.step ((Below.refl _ _).alloc (Nat.le_refl _) (.cells #[.bool vb, .int .i64 vn, .string vs] 28))
  rw [show (W.alloc (.cells #[.string cnm, .int .i64 cty, .int .i64 csc, .bool cnu] 26)).heap.size = W.heap.size + 1 from by simp] at hVv
  have hB : Below W.heap.size W ((W.alloc (.cells #[.string cnm, .int .i64 cty, .int .i64 csc, .bool cnu] 26)).alloc (.cells #[.bool vb, .int .i64 vn, .string vs] 28)) := by go_grown
  clear wt wk rl wl ht wvn hct
  go_enter Tryd.func4, Tryd.ntmps4
  go_wp2_with fail
  refine (HCC _).out.mono ?_
  rintro e w1 ⟨rfl, hb1⟩
  replace hVc := hVc.step hb1
  replace hVv := hVv.step hb1
  replace hB := bel_trans hB hb1
  clear hb1 HCC
  have hVd := Var4.new w1 (.string X) (.int .i64 dty) (.int .i64 dsc) (.bool null) 26
  have hb2 := (Below.refl w1.heap.size w1).alloc (Nat.le_refl _) (.cells #[.string X, .int .i64 dty, .int .i64 dsc, .bool null] 26)
  replace hVc := hVc.step hb2
  replace hVv := hVv.step hb2
  replace hB := bel_trans hB hb2
  clear hb2
  go_wp2_with fail
  refine (HKV _ hB).out.mono ?_
  rintro e w3 ⟨xb, xn, xt, rfl, hp, hb3⟩
  replace hVc := hVc.step hb3
  replace hVv := hVv.step hb3
  replace hVd := hVd.step hb3
  replace hB := bel_trans hB hb3
  clear hb3 HKV
  have hVx := Var3.new w3 (.bool xb) (.int .i64 xn) (.string xt) 28
  have hb4 := (Below.refl w3.heap.size w3).alloc (Nat.le_refl _) (.cells #[.bool xb, .int .i64 xn, .string xt] 28)
  replace hVc := hVc.step hb4
  replace hVv := hVv.step hb4
  replace hVd := hVd.step hb4
  replace hB := bel_trans hB hb4
  clear hb4
  have HWX := Lib.hid hp.1.2.1
  clear hp
  have hV := fun (w : World) (hb : Below (w3.alloc (.cells #[.bool xb, .int .i64 xn, .string xt] 28)).heap.size (w3.alloc (.cells #[.bool xb, .int .i64 xn, .string xt] 28)) w) =>
    Lib.hid (And.intro (bel_trans hB hb) (And.intro (hVc.step hb) (And.intro (hVv.step hb) (And.intro (hVd.step hb) (hVx.step hb)))))
  obtain ⟨c0, c1, c2, c3⟩ := hVc
  obtain ⟨v0, v1, v2, _, _, _⟩ := hVv
  clear hVd hVx hB
  go_wp2_with fail
  clear c0 c1 c2 c3 v0 v1 v2
  generalize w1.heap.size = db at *
  generalize w3.heap.size = xa at *
  generalize w3.alloc (.cells #[.bool xb, .int .i64 xn, .string xt] 28) = w4 at *
  have H1 := fun (w : World) (hb : Below W.heap.size W w) => Lib.hid (vFormat_any cnm cty csc cnu vb vn vs w HWV.out (HT w hb).out)
  have H2 := fun (w : World) => Lib.hid (rFormat_any cnm cty csc cnu vb vn vs w HWV.out)
  have H3 := fun (w : World) (hb : Below W.heap.size W w) => Lib.hid (vFormat_any X dty dsc null xb xn xt w HWX.out (HT w hb).out)
  have H4 := fun (w : World) => Lib.hid (rFormat_any X dty dsc null xb xn xt w HWX.out)
  have H5 := fun (w : World) (hb : Below W.heap.size W w) => Lib.hid (vFormat_any X dty dsc null vb vn vs w HWV.out (HT w hb).out)
  have H6 := fun (w : World) => Lib.hid (rFormat_any X dty dsc null vb vn vs w HWV.out)
  clear HT HWV HWX
  rw [FR_spell] at H1 H2 H3 H4 H5 H6
  generalize FG cty csc cnu vb vn vs = g1 at *
  generalize FGC cty csc cnu vb vn vs = e1 at *
  generalize FG dty dsc null xb xn xt = g3 at *
  generalize FGC dty dsc null xb xn xt = e3 at *
  generalize FG dty dsc null vb vn vs = g5 at *
  generalize FGC dty dsc null vb vn vs = e5 at *
  have hcur : Below w4.heap.size w4 w4 := Below.refl _ _
  have hB := (hV _ hcur).out.1
  refine (H1 _ hB).out.mono ?_
  rintro e u1 ⟨rfl, hb⟩
  replace hcur := bel_trans hcur hb
  clear hb hB H1
  obtain ⟨_, ⟨c0, c1, c2, c3⟩, ⟨v0, v1, v2, _, _, _⟩, ⟨d0, d1, d2, d3⟩, ⟨x0, x1, x2, _, _, _⟩⟩ := (hV _ hcur).out
  go_wp2_with fail
  clear c0 c1 c2 c3 v0 v1 v2 d0 d1 d2 d3 x0 x1 x2
  have hB := (hV _ hcur).out.1
  refine (H2 _).out.mono ?_
  rintro e u2 ⟨rfl, hb⟩
  replace hcur := bel_trans hcur hb
  clear hb hB H2
  obtain ⟨_, ⟨c0, c1, c2, c3⟩, ⟨v0, v1, v2, _, _, _⟩, ⟨d0, d1, d2, d3⟩, ⟨x0, x1, x2, _, _, _⟩⟩ := (hV _ hcur).out
  go_wp2_with fail
  clear c0 c1 c2 c3 v0 v1 v2 d0 d1 d2 d3 x0 x1 x2
  have hB := (hV _ hcur).out.1
  refine (H3 _ hB).out.mono ?_
  rintro e u3 ⟨rfl, hb⟩
  replace hcur := bel_trans hcur hb
  clear hb hB H3
  obtain ⟨_, ⟨c0, c1, c2, c3⟩, ⟨v0, v1, v2, _, _, _⟩, ⟨d0, d1, d2, d3⟩, ⟨x0, x1, x2, _, _, _⟩⟩ := (hV _ hcur).out
  go_wp2_with fail
  clear c0 c1 c2 c3 v0 v1 v2 d0 d1 d2 d3 x0 x1 x2
  have hB := (hV _ hcur).out.1
  refine (H4 _).out.mono ?_
  rintro e u4 ⟨rfl, hb⟩
  replace hcur := bel_trans hcur hb
  clear hb hB H4
  obtain ⟨_, ⟨c0, c1, c2, c3⟩, ⟨v0, v1, v2, _, _, _⟩, ⟨d0, d1, d2, d3⟩, ⟨x0, x1, x2, _, _, _⟩⟩ := (hV _ hcur).out
  go_wp2_with fail
  clear c0 c1 c2 c3 v0 v1 v2 d0 d1 d2 d3 x0 x1 x2
  have hB := (hV _ hcur).out.1
  refine (H5 _ hB).out.mono ?_
  rintro e u5 ⟨rfl, hb⟩
  replace hcur := bel_trans hcur hb
  clear hb hB H5
  obtain ⟨_, ⟨c0, c1, c2, c3⟩, ⟨v0, v1, v2, _, _, _⟩, ⟨d0, d1, d2, d3⟩, ⟨x0, x1, x2, _, _, _⟩⟩ := (hV _ hcur).out
  go_wp2_with fail
  clear c0 c1 c2 c3 v0 v1 v2 d0 d1 d2 d3 x0 x1 x2
  have hB := (hV _ hcur).out.1
  refine (H6 _).out.mono ?_
  rintro e u6 ⟨rfl, hb⟩
  replace hcur := bel_trans hcur hb
  clear hb hB H6
  obtain ⟨_, ⟨c0, c1, c2, c3⟩, ⟨v0, v1, v2, _, _, _⟩, ⟨d0, d1, d2, d3⟩, ⟨x0, x1, x2, _, _, _⟩⟩ := (hV _ hcur).out
  go_wp2_with fail
  clear c0 c1 c2 c3 v0 v1 v2 d0 d1 d2 d3 x0 x1 x2
  have hB := (hV _ hcur).out.1
  refine (hAw _).out.mono ?_
  rintro e u7 ⟨rfl, hb⟩
  replace hB := bel_trans hB hb
  clear hV hcur hb hAw
  go_wp2
  go_ret
  exact RetB.mk rfl hB
set_option maxRecDepth 100000 in
set_option maxHeartbeats 4000000 in
theorem valueFormats_lifted (os : Os) (started : os.Started) (H : Type) (enc : TypeId × Value → H) :
    ReturnsInHanded {} Tryd.checked os 4 .any (fun w args => (Rows.valueFormatsSpec.pre enc Tryd.prog Tryd.f4 Rows.valueFormatsRow.domain false w args ∧ laidMetH Tryd.prog Rows.valueFormatsRow.laid w) ∧ sizedMet enc Tryd.prog Tryd.f4 (OpenSpec.ofChange Rows.valueFormatsSpec) false w args) (Rows.valueFormatsSpec.post enc Tryd.prog Tryd.f4 false true false false) := by
  refine laid_lifted (C := Tryd.checked) (tb := 4) (laid := Rows.valueFormatsRow.laid) started Tryd.own Tryd.laidOut (by kernel_rfl) Tryd.func4
    (ChangeSpec.witness_shaped (enc := enc) (C := Tryd.checked) (os := os) (X := fun w _ => laidMetH Tryd.prog Rows.valueFormatsRow.laid w) false (World.laidAll Tryd.prog os Rows.valueFormatsRow.laid) #[.agg #[.string ⟨#[]⟩, .int .i64 0, .int .i64 0, .bool false], .agg #[.bool false, .int .i64 0, .string ⟨#[]⟩], .int .i64 0, .int .i64 0, .bool false, .slice none 0 0] 8 (World.laidAll_os _ _ _) (World.shaped_of_ZipB (by kernel_rfl) (by kernel_rfl)) (by kernel_rfl) (by kernel_rfl) (by kernel_rfl) (by rw [MakeChecks.laidMetH_plain _ _ _ (by kernel_rfl)]; exact laidMet_laidAll _ (by kernel_rfl) (by kernel_rfl)))
    rfl rfl Tryd.underlying4 (by kernel_rfl) (fun ds h => ?_) (fun W base args ds p hval0 hA0 hsz0 hlt hL => ?_)
  · have h' : ds.length = Tryd.f4.params.toList.length := h
    rw [Tryd.params4] at h'
    match ds, h' with
    | [_, _, _, _, _, _], _ => rfl
  · have hval : ∀ (j : Nat) t v, Tryd.f4.params[j]? = some t → args[j]? = some v → Value.okWide Tryd.prog W .any base t v := hval0
    have hA : DataW.TrodAll enc Tryd.prog W 0 (fun _ => true) true Tryd.f4.params.toList args.toList ds p := hA0
    have hsz : (DataW.weightsEach Tryd.prog Tryd.f4.params.toList ds).all (· ≤ reachBytes) = true := hsz0
    rw [Tryd.params4] at hA hval hsz
    clear hA0 hval0 hsz0
    have ht : TabOk W := tab_of_laid hL
    clear hL
    obtain ⟨v0, vs0, d0, ds0, p0, q0, hargs, rfl, rfl, h0, r0⟩ := trodAll_cons hA
    obtain ⟨v1, vs1, d1, ds1, p1, q1, rfl, rfl, rfl, h1, r1⟩ := trodAll_cons r0
    obtain ⟨v2, vs2, d2, ds2, p2, q2, rfl, rfl, rfl, h2, r2⟩ := trodAll_cons r1
    obtain ⟨v3, vs3, d3, ds3, p3, q3, rfl, rfl, rfl, h3, r3⟩ := trodAll_cons r2
    obtain ⟨v4, vs4, d4, ds4, p4, q4, rfl, rfl, rfl, h4, r4⟩ := trodAll_cons r3
    obtain ⟨v5, vs5, d5, ds5, p5, q5, rfl, rfl, rfl, h5, r5⟩ := trodAll_cons r4
    obtain ⟨rfl, rfl, rfl⟩ := trodAll_nil r5
    obtain rfl : args = #[v0, v1, v2, v3, v4, v5] := by cases args; simp_all
    obtain ⟨cnm, cty, csc, cnu, rfl, wcty, wcsc, zcnm⟩ := open_col (hval 0 26 v0 rfl rfl) h0
    obtain ⟨vb, vn, vs, rfl, wvn, zvs⟩ := open_val (hval 1 28 v1 rfl rfl) h1
    obtain ⟨t, rfl, rfl, rfl, wt⟩ := open_int Tryd.underlying3 (hval 2 3 v2 rfl rfl) h2
    obtain ⟨k, rfl, rfl, rfl, wk⟩ := open_int Tryd.underlying3 (hval 3 3 v3 rfl rfl) h3
    obtain ⟨null, rfl, rfl, rfl⟩ := open_bool Tryd.underlying4 (hval 4 4 v4 rfl rfl) h4
    obtain ⟨zl, rl, wl, bl⟩ := open_rdI Tryd.underlying31 Tryd.underlying3 (by kernel_rfl) (hval 5 31 v5 rfl rfl) h5 hsz (j := 5) rfl rfl
    change Calls Tryd.prog 4 #[(.agg #[.string cnm, .int .i64 cty, .int .i64 csc, .bool cnu]), (.agg #[.bool vb, .int .i64 vn, .string vs]), .int .i64 t, .int .i64 k, .bool null, v5] W (RetB (.bool true) W)
    exact formats_walk cnm cty csc cnu vb vn vs t k null v5 zl W wvn wt wk rl wl ht
theorem valueFormats_holds : Rows.ValueFormatsSaid :=
  OpenClaim.holds_of_wide 4 Tryd.f4 rfl rfl rfl rfl rfl rfl rfl ⟨rfl, rfl, rfl, rfl, rfl⟩ rfl rfl rfl rfl rfl (by kernel_rfl) Tryd.func4 (by kernel_rfl)
    (of_decide_eq_true (by kernel_rfl)) (by unfold Func.isWrapper; first | (rw [if_pos (by decide +kernel)]; kernel_rfl) | (rw [if_neg (by decide +kernel)]; exact ⟨rfl, rfl⟩))
    (fun os started H enc _ => valueFormats_lifted os started H enc)
theorem valueFormats_card : Rows.ValueFormatsCardSaid :=
  Claim7.holds_tied_plain_at .later [] [.data, .data, .data] true Rows.valueFormatsCard.stood.harness false valueFormats_holds (fun _ h => by cases h) (by kernel_rfl) (fun _ h => by cases h) valueFormats_row_tie rfl ⟨rfl, rfl⟩ (by kernel_rfl) rfl
    (fun f fn hf hfn => by
      obtain rfl : f = 4 := Option.some.inj ((show Tryd.prog.funcNamed Rows.valueFormatsRow.func = some 4 by kernel_rfl).symm.trans hf) |>.symm
      obtain rfl : fn = Tryd.f4 := (Option.some.inj (Tryd.func4.symm.trans hfn)).symm
      exact ⟨by kernel_rfl, fun j t ht => by
        rw [Tryd.params4] at ht
        have hm : t ∈ [26, 28, 3, 3, 4, 31] := by simpa using Array.mem_of_getElem? ht
        have hall : ([26, 28, 3, 3, 4, 31].all fun u => !Tryd.prog.wantsStandIn u) = true := by kernel_rfl
        exact (show Tryd.prog.wantsStandIn t = false by simpa using List.all_eq_true.1 hall t hm)⟩)
    (by kernel_rfl)
end Go.Proofs.YtidlemedkjkmdaaDoor
