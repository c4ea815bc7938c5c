/- Statements of layer 12: ChunkEncodes. -/
import Derived.Test.YtbolbbngncnecaaCkL
import Derived.Test.YtbolbbngncnecaaCkR3
import Derived.Test.YtbolbbngncnecaaValA
namespace Go.Proofs.Ytbolbbngncnecaa
open Go.RowKit Go.VB Go.VarM Go.BP Go.RL Go.VS Go.VL Go.DI Go.CK Go.NU Go.KV Go.ChangeShapes Go.WideShapes Go.ChangeAt
open Go.ChangeMaps (open_string)
set_option linter.constructorNameAsVariable false
theorem rencc_any (nm : ByteArray) (ty sc : Int) (nu : Bool) (v : Value) (l : List Vl) (W : World) (hr : RdL W W.heap.size v l) (hb : ∀ x ∈ l, -9223372036854775808 ≤ x.n ∧ x.n ≤ 9223372036854775807) :
    Calls Try.prog 14 #[(.agg #[.string nm, .int .i64 ty, .int .i64 sc, .bool nu]), v] W (RetB (.tuple #[.string (encS ty nu l), .int .i64 (encE ty nu l : Nat)]) W) := by
  cases hT : okT ty with
  | false =>
    have he := encE_type (nu := nu) (l := l) hT
    rw [encS_bad (by rw [he]; decide), he]
    exact renc_type nm ty sc nu v W hT
  | true =>
    by_cases hl : 4096 < l.length
    · have he := encE_full (nu := nu) hT hl
      rw [encS_bad (by rw [he]; decide), he]
      exact renc_full nm ty sc nu v l W hT hr hl
    · have hl' : l.length ≤ 4096 := by omega
      have he := encE_first (nu := nu) hT hl'
      rw [he]
      refine renc_in nm ty sc nu v l W hT hr hl' hb _ _ (fun e h1 h0 => ⟨encS_bad (by rw [he, h1]; exact h0), h1⟩) (fun h => ⟨encS_ok (by rw [he, h]), h⟩)
set_option maxRecDepth 100000 in
set_option maxHeartbeats 4000000 in
theorem chunkEncodes_lifted (os : Os) (started : os.Started) (H : Type) (enc : TypeId × Value → H) :
    ReturnsInHanded {} Try.checked os 4 .any (Rows.chunkEncodesSpec.pre6 enc Try.prog Try.f4 Rows.chunkEncodesRow.domain false) (Rows.chunkEncodesSpec.post enc Try.prog Try.f4 false true false false) := by
  refine law_lifted (C := Try.checked) (tb := 4) started Try.own Try.laidOut (by kernel_rfl) Try.func4
    (ChangeSpec.witness6 (enc := enc) (C := Try.checked) false ⟨#[], #[.agg #[.string ⟨#[]⟩, .int .i64 0, .int .i64 0, .bool false], .slice none 0 0, .int .i64 0, .bool false, .slice none 0 0], []⟩ 8 (by kernel_rfl) (by kernel_rfl) (by kernel_rfl) (by kernel_rfl))
    rfl rfl Try.underlying4 (by kernel_rfl) (fun ds h => ?_) (fun W base args ds p hval0 hA0 hsz0 hlt => ?_)
  · have h' : ds.length = Try.f4.params.toList.length := h
    rw [Try.params4] at h'
    match ds, h' with
    | [_, _, _, _, _], _ => rfl
  · have hval : ∀ (j : Nat) t v, Try.f4.params[j]? = some t → args[j]? = some v → Value.okWide Try.prog W .any base t v := hval0
    have hA : DataW.TrodAll enc Try.prog W 0 (fun _ => true) true Try.f4.params.toList args.toList ds p := hA0
    have hsz : (DataW.weightsEach Try.prog Try.f4.params.toList ds).all (· ≤ reachBytes) = true := hsz0
    rw [Try.params4] at hA hval hsz
    clear hA0 hval0 hsz0
    obtain ⟨v0, vs0, d0, ds0, p0, q0, hargs, rfl, rfl, h0, r0⟩ := trodAll_cons hA
    obtain ⟨v1, vs1, d1, ds1, p1, q1, rfl, rfl, rfl, h1, r1⟩ := trodAll_cons r0
    obtain ⟨v2, vs2, d2, ds2, p2, q2, rfl, rfl, rfl, h2, r2⟩ := trodAll_cons r1
    obtain ⟨v3, vs3, d3, ds3, p3, q3, rfl, rfl, rfl, h3, r3⟩ := trodAll_cons r2
    obtain ⟨v4, vs4, d4, ds4, p4, q4, rfl, rfl, rfl, h4, r4⟩ := trodAll_cons r3
    obtain ⟨rfl, rfl, rfl⟩ := trodAll_nil r4
    obtain rfl : args = #[v0, v1, v2, v3, v4] := by cases args; simp_all
    obtain ⟨cnm, cty, csc, cnu, rfl, wcty, wcsc, zcnm⟩ := open_col (hval 0 26 v0 rfl rfl) h0
    obtain ⟨zraw, rraw, braw, mraw⟩ := open_vls (hval 1 27 v1 rfl rfl) h1 hsz (j := 1) rfl rfl
    obtain ⟨t, rfl, rfl, rfl, wt⟩ := open_int Try.underlying3 (hval 2 3 v2 rfl rfl) h2
    obtain ⟨null, rfl, rfl, rfl⟩ := open_bool Try.underlying4 (hval 3 4 v3 rfl rfl) h3
    obtain ⟨zm, rm, wm, bm⟩ := open_rdI Try.underlying32 Try.underlying3 (by kernel_rfl) (hval 4 32 v4 rfl rfl) h4 hsz (j := 4) rfl rfl
    change Calls Try.prog 4 #[(.agg #[.string cnm, .int .i64 cty, .int .i64 csc, .bool cnu]), v1, .int .i64 t, .bool null, v4] W (RetB (.bool true) W)
    clear bm braw
    have hbr : ∀ x ∈ zraw, -9223372036854775808 ≤ x.n ∧ x.n ≤ 9223372036854775807 := fun x hx => bd_wf (mraw x hx).1
    have HCOL := fun w => Lib.hid (column_any t null w wt)
    have hty := pick_ty t
    generalize 1 + pickN t 5 = ty at *
    have HKV := fun w r => Lib.hid (kvals_any w v4 zm ⟨#[120]⟩ ty 0 null r wm hty)
    have HBC := Lib.hid ((Below.refl W.heap.size W).alloc (Nat.le_refl _) (.cells #[.string cnm, .int .i64 cty, .int .i64 csc, .bool cnu] 26))
    have HSC := Lib.hid (show (W.alloc (.cells #[.string cnm, .int .i64 cty, .int .i64 csc, .bool cnu] 26)).heap.size = W.heap.size + 1 by simp)
    have HVC := Lib.hid (Var4.new W (.string cnm) (.int .i64 cty) (.int .i64 csc) (.bool cnu) 26)
    have HE1 := fun w r => Lib.hid (cenc_any cnm cty csc cnu v1 zraw w r hbr)
    have HE2 := fun w r => Lib.hid (rencc_any cnm cty csc cnu v1 zraw w r hbr)
    have HE5 := fun w r => Lib.hid (cenc_any ⟨#[120]⟩ ty 0 null v1 zraw w r hbr)
    have HE6 := fun w r => Lib.hid (rencc_any ⟨#[120]⟩ ty 0 null v1 zraw w r hbr)
    have hraw1 := rraw.step HBC.out
    have hrm1 := rm.step HBC.out
    generalize encS cty cnu zraw = S1 at *
    generalize encE cty cnu zraw = E1 at *
    generalize encS ty null zraw = S5 at *
    generalize encE ty null zraw = E5 at *
    have HRAW := Lib.hid hraw1
    have HRM := Lib.hid hrm1
    clear hbr hraw1 hrm1 mraw rraw rm wm hty
    go_enter Try.func4, Try.ntmps4
    go_wp2_with fail
    (with_reducible refine (HCOL _).out.mono ?_); rintro e w1 ⟨rfl, hb1⟩
    have hba := (Below.refl w1.heap.size w1).alloc (Nat.le_refl _) (.cells #[.string ⟨#[120]⟩, .int .i64 ty, .int .i64 0, .bool null] 26)
    have HSZ := Lib.hid (show (w1.alloc (.cells #[.string ⟨#[120]⟩, .int .i64 ty, .int .i64 0, .bool null] 26)).heap.size = w1.heap.size + 1 by simp)
    have HBX := Lib.hid (bel_trans hb1 hba)
    have HV := Lib.hid (Var4.new w1 (.string ⟨#[120]⟩) (.int .i64 ty) (.int .i64 0) (.bool null) 26)
    have HVC2 := Lib.hid (HVC.out.step HBX.out)
    have hszw := hb1.size
    rw [HSC.out] at hszw
    have HVV := Lib.hid (show ∀ w, Below (w1.alloc (.cells #[.string ⟨#[120]⟩, .int .i64 ty, .int .i64 0, .bool null] 26)).heap.size (w1.alloc (.cells #[.string ⟨#[120]⟩, .int .i64 ty, .int .i64 0, .bool null] 26)) w → Var4 w W.heap.size (.string cnm) (.int .i64 cty) (.int .i64 csc) (.bool cnu) ∧ Var4 w w1.heap.size (.string ⟨#[120]⟩) (.int .i64 ty) (.int .i64 0) (.bool null) from fun w hb => ⟨HVC2.out.below hb (by rw [HSZ.out]; omega), HV.out.below hb (by rw [HSZ.out]; exact Nat.lt_succ_self _)⟩)
    have HRAW2 := Lib.hid (HRAW.out.step HBX.out)
    have hrm := HRM.out.step HBX.out
    clear hba hb1 HCOL HRAW HRM HV HVC HVC2 hszw
    go_wp2_with fail
    (with_reducible refine (HKV _ hrm).out.mono ?_); rintro e w2 ⟨vx, lx, rfl, hown, hlx, hcx, hbx, hb2⟩
    have hrx := hown.read
    have HE3 := fun w r => Lib.hid (cenc_any ⟨#[120]⟩ ty 0 null vx lx w r hbx)
    have HE4 := fun w r => Lib.hid (rencc_any ⟨#[120]⟩ ty 0 null vx lx w r hbx)
    generalize encS ty null lx = S3 at *
    generalize encE ty null lx = E3 at *
    have hraw := HRAW2.out.step hb2
    clear hown hcx hbx hrm HKV
    have HB0 := Lib.hid hb2
    obtain ⟨⟨c0, c1, c2, c3⟩, ⟨d0, d1, d2, d3⟩⟩ := HVV.out _ hb2
    clear hb2
    go_wp2_with fail
    (with_reducible refine (HE1 _ hraw).out.mono ?_); rintro e w2 ⟨rfl, hb2⟩
    replace hraw := hraw.step hb2
    replace hrx := hrx.step hb2
    have HB0 := Lib.hid (bel_trans HB0.out hb2)
    clear hb2 c0 c1 c2 c3 d0 d1 d2 d3
    obtain ⟨⟨c0, c1, c2, c3⟩, ⟨d0, d1, d2, d3⟩⟩ := HVV.out _ HB0.out
    go_wp2_with fail
    (with_reducible refine (HE2 _ hraw).out.mono ?_); rintro e w2 ⟨rfl, hb2⟩
    replace hraw := hraw.step hb2
    replace hrx := hrx.step hb2
    have HB0 := Lib.hid (bel_trans HB0.out hb2)
    clear hb2 c0 c1 c2 c3 d0 d1 d2 d3
    obtain ⟨⟨c0, c1, c2, c3⟩, ⟨d0, d1, d2, d3⟩⟩ := HVV.out _ HB0.out
    go_wp2_with fail
    (with_reducible refine (HE3 _ hrx).out.mono ?_); rintro e w2 ⟨rfl, hb2⟩
    replace hraw := hraw.step hb2
    replace hrx := hrx.step hb2
    have HB0 := Lib.hid (bel_trans HB0.out hb2)
    clear hb2 c0 c1 c2 c3 d0 d1 d2 d3
    obtain ⟨⟨c0, c1, c2, c3⟩, ⟨d0, d1, d2, d3⟩⟩ := HVV.out _ HB0.out
    go_wp2_with fail
    (with_reducible refine (HE4 _ hrx).out.mono ?_); rintro e w2 ⟨rfl, hb2⟩
    replace hraw := hraw.step hb2
    replace hrx := hrx.step hb2
    have HB0 := Lib.hid (bel_trans HB0.out hb2)
    clear hb2 c0 c1 c2 c3 d0 d1 d2 d3
    obtain ⟨⟨c0, c1, c2, c3⟩, ⟨d0, d1, d2, d3⟩⟩ := HVV.out _ HB0.out
    go_wp2_with fail
    (with_reducible refine (HE5 _ hraw).out.mono ?_); rintro e w2 ⟨rfl, hb2⟩
    replace hraw := hraw.step hb2
    replace hrx := hrx.step hb2
    have HB0 := Lib.hid (bel_trans HB0.out hb2)
    clear hb2 c0 c1 c2 c3 d0 d1 d2 d3
    obtain ⟨⟨c0, c1, c2, c3⟩, ⟨d0, d1, d2, d3⟩⟩ := HVV.out _ HB0.out
    go_wp2_with fail
    (with_reducible refine (HE6 _ hraw).out.mono ?_); rintro e w2 ⟨rfl, hb2⟩
    replace hraw := hraw.step hb2
    replace hrx := hrx.step hb2
    have HB0 := Lib.hid (bel_trans HB0.out hb2)
    clear hb2 c0 c1 c2 c3 d0 d1 d2 d3
    obtain ⟨⟨c0, c1, c2, c3⟩, ⟨d0, d1, d2, d3⟩⟩ := HVV.out _ HB0.out
    clear c0 c1 c2 c3 d0 d1 d2 d3 hraw hrx HE1 HE2 HE3 HE4 HE5 HE6
    go_wp2_with fail
    (with_reducible refine (awake12_any _).mono ?_); rintro e w3 ⟨rfl, hb3⟩
    have hB := bel_trans (bel_trans (bel_trans HBC.out HBX.out) HB0.out) hb3
    go_wp2
    go_ret
    exact RetB.mk rfl hB
theorem chunkEncodes_holds : Rows.ChunkEncodesSaid :=
  OpenClaim.holds_of_wide 4 Try.f4 rfl rfl rfl rfl rfl rfl rfl ⟨rfl, rfl, rfl, rfl, rfl⟩ rfl rfl rfl rfl rfl (by kernel_rfl) Try.func4 (by kernel_rfl)
    (of_decide_eq_true (by kernel_rfl)) (by unfold Func.isWrapper; first | (rw [if_pos (by decide +kernel)]; kernel_rfl) | (rw [if_neg (by decide +kernel)]; exact ⟨rfl, rfl⟩))
    (fun os started H enc _ => chunkEncodes_lifted os started H enc)
end Go.Proofs.Ytbolbbngncnecaa
