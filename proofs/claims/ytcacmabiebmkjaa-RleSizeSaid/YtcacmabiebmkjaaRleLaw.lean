/- The statements of layer 9, each out of the contracts. -/
import Derived.Test.YtcacmabiebmkjaaRleK
import Derived.Test.YtcacmabiebmkjaaRleW3
import Derived.Test.YtcacmabiebmkjaaRleW4
namespace Go.Proofs.Ytcacmabiebmkjaa
open Go.RowKit Go.VB Go.VarM Go.RL Go.KS Go.ChangeShapes Go.WideShapes Go.ChangeAt
open Go.ChangeMaps (open_string)
set_option linter.constructorNameAsVariable false
theorem Try.own : ownKnob Try.prog.godebug = none := by kernel_rfl
theorem Try.laidOut : laidOutB Try.prog = true := by kernel_rfl
theorem lit_eqR {a b : Nat} (h : a = b) : ((a : Int) == (b : Int)) = true := by rw [h]; exact beq_self_eq_true _
theorem enc_7771 : str (encR [7, 7, 7, -1]) = ⟨#[3, 14, 1, 1]⟩ := by
  have e1 : fr 7 [7, 7, -1] = 2 := by decide
  have e2 : fr (-1) [] = 0 := rfl
  have z1 : (zigN 7).toNat = 14 := by decide
  have z2 : (zigN (-1)).toNat = 1 := by decide
  have d1 : ([7, 7, -1] : List Int).drop 2 = [-1] := rfl
  have d2 : ([] : List Int).drop 0 = [] := rfl
  rw [encR_cons, e1, d1, encR_cons, e2, d2, encR_nil, run1, run1, z1, z2, putL_lt (by decide), putL_lt (by decide), putL_lt (by decide)]
  rfl
theorem i64_7771 : I64 [7, 7, 7, -1] := by intro z hz; simp at hz; omega
theorem enc7771_any (e : TypeId) (m : Nat) (hm : 4 ≤ m) (hm2 : m ≤ maxLen) (w : World) :
    Calls Try.prog 10 #[.slice (some ⟨w.heap.size, 0, none⟩) 4 m] (w.alloc (.cells #[.int .i64 7, .int .i64 7, .int .i64 7, .int .i64 (-1)] e)) (RetB (.string ⟨#[3, 14, 1, 1]⟩) (w.alloc (.cells #[.int .i64 7, .int .i64 7, .int .i64 7, .int .i64 (-1)] e))) := by
  have h := encode_any _ [7, 7, 7, -1] _ _ (RdV.lit (Value.int .i64) w [7, 7, 7, -1] m e hm hm2) (by simp) i64_7771 (by decide)
  rw [enc_7771] at h
  exact h
set_option maxRecDepth 100000 in
set_option maxHeartbeats 400000 in
theorem awake9_any (w : World) : Calls Try.prog 12 #[] w (RetB (.bool true) w) := by
  go_enter Try.func12, Try.ntmps12
  go_wp2_with fail
  refine (enc7771_any _ _ (by decide) (by decide) _).mono ?_
  rintro e w' ⟨rfl, hb⟩
  have hb' := ((Below.refl w.heap.size w).alloc (Nat.le_refl _) (.cells #[.int .i64 7, .int .i64 7, .int .i64 7, .int .i64 (-1)] 2)).trans (hb.mono (by simp))
  clear hb
  go_wp2
  go_ret
  exact RetB.mk rfl hb'
set_option maxRecDepth 100000 in
set_option maxHeartbeats 1000000 in
theorem decodes_any (s : ByteArray) (n : Int) (w : World) (hs : s.size ≤ 140737488351232) :
    Calls Try.prog 16 #[.string s, .int .i64 n] w (RetB (.bool true) w) := by
  have H1 := fun w => Lib.hid (decode_any s n w hs)
  have H2 := fun w => Lib.hid (rdecode_any s n w hs)
  generalize decR s n = R at *
  go_enter Try.func16, Try.ntmps16
  go_wp2_with fail
  refine (H1 _).out.mono ?_; rintro e w1 ⟨v1, rfl, hown1, hB⟩
  have hr1 := hown1.read
  clear hown1
  go_wp2_with fail
  refine (H2 _).out.mono ?_; rintro e w2 ⟨v2, rfl, hown2, hb⟩
  have hr2 := hown2.read
  replace hr1 := hr1.step hb
  replace hB := bel_trans hB hb
  clear hown2 hb
  go_wp2_with fail
  refine (same_i_eq _ _ R.1 _ _ hr1 hr2 (Nat.le_refl _)).mono ?_; rintro e w3 ⟨rfl, hb⟩
  replace hB := bel_trans hB hb
  clear hb hr1 hr2
  go_wp2
  go_ret
  exact RetB.mk rfl hB

set_option maxRecDepth 100000 in
set_option maxHeartbeats 4000000 in
theorem rleExamples_lifted (os : Os) (started : os.Started) (H : Type) (enc : TypeId × Value → H) :
    ReturnsInHanded {} Try.checked os 3 .any (Rows.rleExamplesSpec.pre6 enc Try.prog Try.f3 Rows.rleExamplesRow.domain false) (Rows.rleExamplesSpec.post enc Try.prog Try.f3 false true false false) := by
  refine law_lifted (C := Try.checked) (tb := 4) started Try.own Try.laidOut (by kernel_rfl) Try.func3
    (ChangeSpec.witness6 (enc := enc) (C := Try.checked) false ⟨#[], #[], []⟩ 8 (by kernel_rfl) (by kernel_rfl) (by kernel_rfl) (by kernel_rfl))
    rfl rfl Try.underlying4 (by kernel_rfl) (fun ds h => ?_) (fun W base args ds p hval0 hA0 hsz0 hlt => ?_)
  · have h' : ds.length = Try.f3.params.toList.length := h
    rw [Try.params3] at h'
    match ds, h' with
    | [], _ => rfl
  · have hval : ∀ (j : Nat) t v, Try.f3.params[j]? = some t → args[j]? = some v → Value.okWide Try.prog W .any base t v := hval0
    have hA : DataW.TrodAll enc Try.prog W 0 (fun _ => true) true Try.f3.params.toList args.toList ds p := hA0
    have hsz : (DataW.weightsEach Try.prog Try.f3.params.toList ds).all (· ≤ reachBytes) = true := hsz0
    rw [Try.params3] at hA hval hsz
    clear hA0 hval0 hsz0
    obtain ⟨hargs, rfl, rfl⟩ := trodAll_nil hA
    obtain rfl : args = #[] := by cases args; simp_all
    change Calls Try.prog 3 #[] W (RetB (.bool true) W)
    go_enter Try.func3, Try.ntmps3
    go_wp2_with fail
    refine (enc7771_any _ _ (by decide) (by decide) _).mono ?_
    rintro e w' ⟨rfl, hb⟩
    have hb' := ((Below.refl W.heap.size W).alloc (Nat.le_refl _) (.cells #[.int .i64 7, .int .i64 7, .int .i64 7, .int .i64 (-1)] 2)).trans (hb.mono (by simp))
    clear hb
    go_wp2
    go_ret
    exact RetB.mk rfl hb'
theorem rleExamples_holds : Rows.RleExamplesSaid :=
  OpenClaim.holds_of_wide 3 Try.f3 rfl rfl rfl rfl rfl rfl rfl ⟨rfl, rfl, rfl, rfl, rfl⟩ rfl rfl rfl rfl rfl (by kernel_rfl) Try.func3 (by kernel_rfl)
    (of_decide_eq_true (by kernel_rfl)) (by unfold Func.isWrapper; first | (rw [if_pos (by decide +kernel)]; kernel_rfl) | (rw [if_neg (by decide +kernel)]; exact ⟨rfl, rfl⟩))
    (fun os started H enc _ => rleExamples_lifted os started H enc)

set_option maxRecDepth 100000 in
set_option maxHeartbeats 4000000 in
theorem rleEncodes_lifted (os : Os) (started : os.Started) (H : Type) (enc : TypeId × Value → H) :
    ReturnsInHanded {} Try.checked os 4 .any (Rows.rleEncodesSpec.pre6 enc Try.prog Try.f4 Rows.rleEncodesRow.domain false) (Rows.rleEncodesSpec.post enc Try.prog Try.f4 false true false false) := by
  refine law_lifted (C := Try.checked) (tb := 4) started Try.own Try.laidOut (by kernel_rfl) Try.func4
    (ChangeSpec.witness6 (enc := enc) (C := Try.checked) false ⟨#[], #[.slice none 0 0, .slice none 0 0], []⟩ 8 (by kernel_rfl) (by kernel_rfl) (by kernel_rfl) (by kernel_rfl))
    rfl rfl Try.underlying4 (by kernel_rfl) (fun ds h => ?_) (fun W base args ds p hval0 hA0 hsz0 hlt => ?_)
  · have h' : ds.length = Try.f4.params.toList.length := h
    rw [Try.params4] at h'
    match ds, h' with
    | [_, _], _ => rfl
  · have hval : ∀ (j : Nat) t v, Try.f4.params[j]? = some t → args[j]? = some v → Value.okWide Try.prog W .any base t v := hval0
    have hA : DataW.TrodAll enc Try.prog W 0 (fun _ => true) true Try.f4.params.toList args.toList ds p := hA0
    have hsz : (DataW.weightsEach Try.prog Try.f4.params.toList ds).all (· ≤ reachBytes) = true := hsz0
    rw [Try.params4] at hA hval hsz
    clear hA0 hval0 hsz0
    obtain ⟨v0, vs0, d0, ds0, p0, q0, hargs, rfl, rfl, h0, r0⟩ := trodAll_cons hA
    obtain ⟨v1, vs1, d1, ds1, p1, q1, rfl, rfl, rfl, h1, r1⟩ := trodAll_cons r0
    obtain ⟨rfl, rfl, rfl⟩ := trodAll_nil r1
    obtain rfl : args = #[v0, v1] := by cases args; simp_all
    obtain ⟨zl, rl, wl, bl⟩ := open_rdI Try.underlying23 Try.underlying2 (by kernel_rfl) (hval 0 23 v0 rfl rfl) h0 hsz (j := 0) rfl rfl
    obtain ⟨zm, rm, wm, bm⟩ := open_rdI Try.underlying25 Try.underlying3 (by kernel_rfl) (hval 1 25 v1 rfl rfl) h1 hsz (j := 1) rfl rfl
    change Calls Try.prog 4 #[v0, v1] W (RetB (.bool true) W)
    have hb8 : zl.length ≤ 17592186043904 := by rw [show Try.prog.bytesOf 2 = 8 from by kernel_rfl] at bl; omega
    have hi := I64.of wl
    have hrl := Lib.hid rl.toV
    clear bl wl rl bm
    have HK := Lib.hid (kruns_any W v1 zm rm wm)
    clear rm wm
    go_enter Try.func4, Try.ntmps4
    go_wp2_with fail
    refine HK.out.mono ?_; rintro e w1 ⟨vx, lx, rfl, hown, hlx, hix, hB⟩
    have hrx := Lib.hid hown.read
    clear HK hown
    generalize hBx : w1.heap.size = Bx at hrx
    have hB1 := Below.refl Bx w1
    have hBx' := Nat.le_of_eq hBx.symm
    have hBB : W.heap.size ≤ Bx := by rw [← hBx]; exact hB.size
    have E1 := fun w (h : Below Bx w1 w) => Lib.hid (encode_any v0 zl _ w (hrl.out.below (hB.trans (h.mono hBB))) (Nat.le_trans hBB (Nat.le_trans hBx' h.size)) hi hb8)
    have E2 := fun w (h : Below Bx w1 w) => Lib.hid (rencode_any v0 zl _ w (hrl.out.below (hB.trans (h.mono hBB))) (Nat.le_trans hBB (Nat.le_trans hBx' h.size)) hi hb8)
    have E3 := fun w (h : Below Bx w1 w) => Lib.hid (encode_any vx lx Bx w (hrx.out.below h) (Nat.le_trans hBx' h.size) hix (by omega))
    have E4 := fun w (h : Below Bx w1 w) => Lib.hid (rencode_any vx lx Bx w (hrx.out.below h) (Nat.le_trans hBx' h.size) hix (by omega))
    have E5 := fun w (h : Below Bx w1 w) => Lib.hid (runs_any v0 zl _ w (hrl.out.below (hB.trans (h.mono hBB))) (Nat.le_trans hBB (Nat.le_trans hBx' h.size)))
    have E6 := fun w (h : Below Bx w1 w) => Lib.hid (runsof_any v0 zl _ w (hrl.out.below (hB.trans (h.mono hBB))) (Nat.le_trans hBB (Nat.le_trans hBx' h.size)) hb8)
    have E7 := fun w (h : Below Bx w1 w) => Lib.hid (runs_any vx lx Bx w (hrx.out.below h) (Nat.le_trans hBx' h.size))
    have E8 := fun w (h : Below Bx w1 w) => Lib.hid (runsof_any vx lx Bx w (hrx.out.below h) (Nat.le_trans hBx' h.size) (by omega))
    clear hrl hrx hi hb8 hlx hix
    generalize str (encR zl) = S at *
    generalize str (encR lx) = T at *
    generalize nR zl = P at *
    generalize nR lx = Q at *
    have hst : ∀ {w w' : World}, Below Bx w1 w → Below w.heap.size w w' → Below Bx w1 w' := fun h k => h.trans (k.mono (Nat.le_trans hBx' h.size))
    go_wp2_with fail
    refine (awake9_any _).mono ?_; rintro e w2 ⟨rfl, hb⟩; replace hB1 := hst hB1 hb; clear hb
    go_wp2_with fail
    refine (E1 _ hB1).out.mono ?_; rintro e w2 ⟨rfl, hb⟩; replace hB1 := hst hB1 hb; clear hb
    go_wp2_with fail
    refine (E2 _ hB1).out.mono ?_; rintro e w2 ⟨rfl, hb⟩; replace hB1 := hst hB1 hb; clear hb
    go_wp2_with fail
    refine (E3 _ hB1).out.mono ?_; rintro e w2 ⟨rfl, hb⟩; replace hB1 := hst hB1 hb; clear hb
    go_wp2_with fail
    refine (E4 _ hB1).out.mono ?_; rintro e w2 ⟨rfl, hb⟩; replace hB1 := hst hB1 hb; clear hb
    go_wp2_with fail
    refine (E5 _ hB1).out.mono ?_; rintro e w2 ⟨rfl, hb⟩; replace hB1 := hst hB1 hb; clear hb
    go_wp2_with fail
    refine (E6 _ hB1).out.mono ?_; rintro e w2 ⟨rfl, hb⟩; replace hB1 := hst hB1 hb; clear hb
    go_wp2_with fail
    refine (E7 _ hB1).out.mono ?_; rintro e w2 ⟨rfl, hb⟩; replace hB1 := hst hB1 hb; clear hb
    go_wp2_with fail
    refine (E8 _ hB1).out.mono ?_; rintro e w2 ⟨rfl, hb⟩; replace hB1 := hst hB1 hb; clear hb
    clear E1 E2 E3 E4 E5 E6 E7 E8
    go_wp2
    go_ret
    exact RetB.mk rfl (hB.trans (hB1.mono hBB))
theorem rleEncodes_holds : Rows.RleEncodesSaid :=
  OpenClaim.holds_of_wide 4 Try.f4 rfl rfl rfl rfl rfl rfl rfl ⟨rfl, rfl, rfl, rfl, rfl⟩ rfl rfl rfl rfl rfl (by kernel_rfl) Try.func4 (by kernel_rfl)
    (of_decide_eq_true (by kernel_rfl)) (by unfold Func.isWrapper; first | (rw [if_pos (by decide +kernel)]; kernel_rfl) | (rw [if_neg (by decide +kernel)]; exact ⟨rfl, rfl⟩))
    (fun os started H enc _ => rleEncodes_lifted os started H enc)

set_option maxRecDepth 100000 in
set_option maxHeartbeats 4000000 in
theorem rleDecodes_lifted (os : Os) (started : os.Started) (H : Type) (enc : TypeId × Value → H) :
    ReturnsInHanded {} Try.checked os 5 .any (Rows.rleDecodesSpec.pre6 enc Try.prog Try.f5 Rows.rleDecodesRow.domain false) (Rows.rleDecodesSpec.post enc Try.prog Try.f5 false true false false) := by
  refine law_lifted (C := Try.checked) (tb := 4) started Try.own Try.laidOut (by kernel_rfl) Try.func5
    (ChangeSpec.witness6 (enc := enc) (C := Try.checked) false ⟨#[], #[.string ⟨#[]⟩, .int .i64 0], []⟩ 8 (by kernel_rfl) (by kernel_rfl) (by kernel_rfl) (by kernel_rfl))
    rfl rfl Try.underlying4 (by kernel_rfl) (fun ds h => ?_) (fun W base args ds p hval0 hA0 hsz0 hlt => ?_)
  · have h' : ds.length = Try.f5.params.toList.length := h
    rw [Try.params5] at h'
    match ds, h' with
    | [_, _], _ => rfl
  · have hval : ∀ (j : Nat) t v, Try.f5.params[j]? = some t → args[j]? = some v → Value.okWide Try.prog W .any base t v := hval0
    have hA : DataW.TrodAll enc Try.prog W 0 (fun _ => true) true Try.f5.params.toList args.toList ds p := hA0
    have hsz : (DataW.weightsEach Try.prog Try.f5.params.toList ds).all (· ≤ reachBytes) = true := hsz0
    rw [Try.params5] at hA hval hsz
    clear hA0 hval0 hsz0
    obtain ⟨v0, vs0, d0, ds0, p0, q0, hargs, rfl, rfl, h0, r0⟩ := trodAll_cons hA
    obtain ⟨v1, vs1, d1, ds1, p1, q1, rfl, rfl, rfl, h1, r1⟩ := trodAll_cons r0
    obtain ⟨rfl, rfl, rfl⟩ := trodAll_nil r1
    obtain rfl : args = #[v0, v1] := by cases args; simp_all
    obtain ⟨s, rfl, rfl, rfl, _⟩ := open_string Try.underlying9 (hval 0 9 v0 rfl rfl) h0
    have zs : s.size ≤ 140737488351232 := by have h := sized_string hsz (j := 0) (t := 9) rfl rfl; rw [size_list] at h; exact h
    obtain ⟨n, rfl, rfl, rfl, wn⟩ := open_int Try.underlying3 (hval 1 3 v1 rfl rfl) h1
    change Calls Try.prog 5 #[.string s, .int .i64 n] W (RetB (.bool true) W)
    have HPK := fun w => Lib.hid (pick_at n 200 w wn (by omega) (by omega))
    have hp := pickN_bd n (n := 200) (by omega)
    generalize pickN n 200 = p at *
    obtain ⟨p1, p2⟩ := hp
    have hB := Below.refl W.heap.size W
    have H1 := fun w => Lib.hid (decodes_any s (p - 1) w zs)
    have H2 := fun w => Lib.hid (decodes_any s n w zs)
    go_enter Try.func5, Try.ntmps5
    go_wp2_with fail
    refine (awake9_any _).mono ?_; rintro e w1 ⟨rfl, hb⟩; replace hB := bel_trans hB hb; clear hb
    go_wp2_with fail
    refine (HPK _).out.mono ?_; rintro e w' ⟨rfl, rfl⟩
    go_wp2_with fail
    refine (H1 _).out.mono ?_; rintro e w2 ⟨rfl, hb⟩; replace hB := bel_trans hB hb; clear hb
    go_wp2_with fail
    refine (H2 _).out.mono ?_; rintro e w3 ⟨rfl, hb⟩; replace hB := bel_trans hB hb; clear hb
    clear H1 H2 HPK
    go_wp2
    go_ret
    exact RetB.mk rfl hB
theorem rleDecodes_holds : Rows.RleDecodesSaid :=
  OpenClaim.holds_of_wide 5 Try.f5 rfl rfl rfl rfl rfl rfl rfl ⟨rfl, rfl, rfl, rfl, rfl⟩ rfl rfl rfl rfl rfl (by kernel_rfl) Try.func5 (by kernel_rfl)
    (of_decide_eq_true (by kernel_rfl)) (by unfold Func.isWrapper; first | (rw [if_pos (by decide +kernel)]; kernel_rfl) | (rw [if_neg (by decide +kernel)]; exact ⟨rfl, rfl⟩))
    (fun os started H enc _ => rleDecodes_lifted os started H enc)

set_option maxRecDepth 100000 in
set_option maxHeartbeats 4000000 in
theorem rleRoundTrip_lifted (os : Os) (started : os.Started) (H : Type) (enc : TypeId × Value → H) :
    ReturnsInHanded {} Try.checked os 7 .any (Rows.rleRoundTripSpec.pre6 enc Try.prog Try.f7 Rows.rleRoundTripRow.domain false) (Rows.rleRoundTripSpec.post enc Try.prog Try.f7 false true false false) := by
  refine law_lifted (C := Try.checked) (tb := 4) started Try.own Try.laidOut (by kernel_rfl) Try.func7
    (ChangeSpec.witness6 (enc := enc) (C := Try.checked) false ⟨#[], #[.slice none 0 0], []⟩ 8 (by kernel_rfl) (by kernel_rfl) (by kernel_rfl) (by kernel_rfl))
    rfl rfl Try.underlying4 (by kernel_rfl) (fun ds h => ?_) (fun W base args ds p hval0 hA0 hsz0 hlt => ?_)
  · have h' : ds.length = Try.f7.params.toList.length := h
    rw [Try.params7] at h'
    match ds, h' with
    | [_], _ => rfl
  · have hval : ∀ (j : Nat) t v, Try.f7.params[j]? = some t → args[j]? = some v → Value.okWide Try.prog W .any base t v := hval0
    have hA : DataW.TrodAll enc Try.prog W 0 (fun _ => true) true Try.f7.params.toList args.toList ds p := hA0
    have hsz : (DataW.weightsEach Try.prog Try.f7.params.toList ds).all (· ≤ reachBytes) = true := hsz0
    rw [Try.params7] at hA hval hsz
    clear hA0 hval0 hsz0
    obtain ⟨v0, vs0, d0, ds0, p0, q0, hargs, rfl, rfl, h0, r0⟩ := trodAll_cons hA
    obtain ⟨rfl, rfl, rfl⟩ := trodAll_nil r0
    obtain rfl : args = #[v0] := by cases args; simp_all
    obtain ⟨zm, rm, wm, bm⟩ := open_rdI Try.underlying25 Try.underlying3 (by kernel_rfl) (hval 0 25 v0 rfl rfl) h0 hsz (j := 0) rfl rfl
    change Calls Try.prog 7 #[v0] W (RetB (.bool true) W)
    clear bm
    have HK := Lib.hid (kruns_any W v0 zm rm wm)
    clear rm wm
    go_enter Try.func7, Try.ntmps7
    go_wp2_with fail
    refine HK.out.mono ?_; rintro e w1 ⟨vx, lx, rfl, hown, hlx, hix, hB⟩
    obtain ⟨A, c, rfl, hc1, hc2, hcx⟩ := hown.read
    unfold maxLen at hc2
    have hrx : RdV (Value.int .i64) w1 w1.heap.size (.slice A lx.length c) lx := hown.read
    clear HK hown hcx
    have H1 := Lib.hid (encode_any _ lx _ w1 hrx (Nat.le_refl _) hix (by omega))
    have hde := decR_enc (l := lx) (by omega) hix
    have hse : (str (encR lx)).size ≤ 140737488351232 := by
      have := encR_len hix
      rw [str_size]; omega
    have H2 := fun w => Lib.hid (decode_any (str (encR lx)) (lx.length : Int) w hse)
    rw [hde] at H2
    clear hde hse hix
    generalize str (encR lx) = S at *
    have HR := Lib.hid hrx; clear hrx
    go_wp2_with fail
    refine H1.out.mono ?_; rintro e w2 ⟨rfl, hb⟩
    have hr1 := HR.out.step hb
    replace hB := bel_trans hB hb; clear hb HR H1
    go_wp2_with fail
    refine (H2 _).out.mono ?_; rintro e w3 ⟨v3, rfl, hown3, hb⟩
    replace hr1 := hr1.step hb
    have hr2 := hown3.read
    replace hB := bel_trans hB hb; clear hb hown3 H2
    go_wp2_with fail
    refine (awake9_any _).mono ?_; rintro e w4 ⟨rfl, hb⟩
    replace hr1 := hr1.step hb; replace hr2 := hr2.step hb
    replace hB := bel_trans hB hb; clear hb
    go_wp2_with fail
    refine (same_i_eq _ _ lx _ _ hr2 hr1 (Nat.le_refl _)).mono ?_; rintro e w5 ⟨rfl, hb⟩
    replace hB := bel_trans hB hb; clear hb hr1 hr2
    go_wp2
    go_ret
    exact RetB.mk rfl hB
theorem rleRoundTrip_holds : Rows.RleRoundTripSaid :=
  OpenClaim.holds_of_wide 7 Try.f7 rfl rfl rfl rfl rfl rfl rfl ⟨rfl, rfl, rfl, rfl, rfl⟩ rfl rfl rfl rfl rfl (by kernel_rfl) Try.func7 (by kernel_rfl)
    (of_decide_eq_true (by kernel_rfl)) (by unfold Func.isWrapper; first | (rw [if_pos (by decide +kernel)]; kernel_rfl) | (rw [if_neg (by decide +kernel)]; exact ⟨rfl, rfl⟩))
    (fun os started H enc _ => rleRoundTrip_lifted os started H enc)

set_option maxRecDepth 100000 in
set_option maxHeartbeats 4000000 in
theorem rleSize_lifted (os : Os) (started : os.Started) (H : Type) (enc : TypeId × Value → H) :
    ReturnsInHanded {} Try.checked os 9 .any (Rows.rleSizeSpec.pre6 enc Try.prog Try.f9 Rows.rleSizeRow.domain false) (Rows.rleSizeSpec.post enc Try.prog Try.f9 false true false false) := by
  refine law_lifted (C := Try.checked) (tb := 4) started Try.own Try.laidOut (by kernel_rfl) Try.func9
    (ChangeSpec.witness6 (enc := enc) (C := Try.checked) false ⟨#[], #[.slice none 0 0], []⟩ 8 (by kernel_rfl) (by kernel_rfl) (by kernel_rfl) (by kernel_rfl))
    rfl rfl Try.underlying4 (by kernel_rfl) (fun ds h => ?_) (fun W base args ds p hval0 hA0 hsz0 hlt => ?_)
  · have h' : ds.length = Try.f9.params.toList.length := h
    rw [Try.params9] at h'
    match ds, h' with
    | [_], _ => rfl
  · have hval : ∀ (j : Nat) t v, Try.f9.params[j]? = some t → args[j]? = some v → Value.okWide Try.prog W .any base t v := hval0
    have hA : DataW.TrodAll enc Try.prog W 0 (fun _ => true) true Try.f9.params.toList args.toList ds p := hA0
    have hsz : (DataW.weightsEach Try.prog Try.f9.params.toList ds).all (· ≤ reachBytes) = true := hsz0
    rw [Try.params9] at hA hval hsz
    clear hA0 hval0 hsz0
    obtain ⟨v0, vs0, d0, ds0, p0, q0, hargs, rfl, rfl, h0, r0⟩ := trodAll_cons hA
    obtain ⟨rfl, rfl, rfl⟩ := trodAll_nil r0
    obtain rfl : args = #[v0] := by cases args; simp_all
    obtain ⟨zm, rm, wm, bm⟩ := open_rdI Try.underlying25 Try.underlying3 (by kernel_rfl) (hval 0 25 v0 rfl rfl) h0 hsz (j := 0) rfl rfl
    change Calls Try.prog 9 #[v0] W (RetB (.bool true) W)
    clear bm
    have HK := Lib.hid (kruns_any W v0 zm rm wm)
    clear rm wm
    go_enter Try.func9, Try.ntmps9
    go_wp2_with fail
    refine HK.out.mono ?_; rintro e w1 ⟨vx, lx, rfl, hown, hlx, hix, hB⟩
    obtain ⟨A, c, rfl, hc1, hc2, hcx⟩ := hown.read
    unfold maxLen at hc2
    have hrx : RdV (Value.int .i64) w1 w1.heap.size (.slice A lx.length c) lx := hown.read
    clear HK hown hcx
    have H1 := Lib.hid (encode_any _ lx _ w1 hrx (Nat.le_refl _) hix (by omega))
    obtain ⟨s1, s2, s3, s4⟩ := enc_sizes _ lx (Nat.le_refl _) hix
    replace s4 := s4 (by omega)
    have hse := str_size (encR lx)
    have HR := Lib.hid hrx; clear hrx hix
    rw [← hse] at s1 s2 s4
    clear hse
    have H2 := fun w (h : RdV (Value.int .i64) w w.heap.size (.slice A lx.length c) lx) => Lib.hid (runs_any _ lx _ w h (Nat.le_refl _))
    generalize str (encR lx) = S at *
    generalize nR lx = Q at *
    go_wp2_with fail
    refine H1.out.mono ?_; rintro e w2 ⟨rfl, hb⟩
    have hr1 := HR.out.step hb
    replace hB := bel_trans hB hb; clear hb HR H1
    go_wp2_with fail
    refine (H2 _ hr1).out.mono ?_; rintro e w3 ⟨rfl, hb⟩
    replace hB := bel_trans hB hb; clear hb hr1 H2
    go_wp2_with fail
    refine (awake9_any _).mono ?_; rintro e w4 ⟨rfl, hb⟩
    replace hB := bel_trans hB hb; clear hb
    go_wp2
    go_ret
    exact RetB.mk rfl hB
theorem rleSize_holds : Rows.RleSizeSaid :=
  OpenClaim.holds_of_wide 9 Try.f9 rfl rfl rfl rfl rfl rfl rfl ⟨rfl, rfl, rfl, rfl, rfl⟩ rfl rfl rfl rfl rfl (by kernel_rfl) Try.func9 (by kernel_rfl)
    (of_decide_eq_true (by kernel_rfl)) (by unfold Func.isWrapper; first | (rw [if_pos (by decide +kernel)]; kernel_rfl) | (rw [if_neg (by decide +kernel)]; exact ⟨rfl, rfl⟩))
    (fun os started H enc _ => rleSize_lifted os started H enc)
end Go.Proofs.Ytcacmabiebmkjaa
