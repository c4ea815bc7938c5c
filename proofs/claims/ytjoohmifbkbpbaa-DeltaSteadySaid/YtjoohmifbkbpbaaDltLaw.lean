/- The statements of layer 11, each out of the contracts. -/
import Derived.Test.YtjoohmifbkbpbaaDltK
namespace Go.Proofs.Ytjoohmifbkbpbaa
open Go.RowKit Go.VB Go.VarM Go.BP Go.RL Go.DL Go.KS Go.ChangeShapes Go.WideShapes Go.ChangeAt
open Go.ChangeMaps (open_string)
set_option linter.constructorNameAsVariable false
theorem Try.own : ownKnob Try.prog.godebug = none := by kernel_rfl
theorem Try.laidOut : laidOutB Try.prog = true := by kernel_rfl

set_option maxRecDepth 100000 in
set_option maxHeartbeats 4000000 in
theorem deltaExamples_lifted (os : Os) (started : os.Started) (H : Type) (enc : TypeId × Value → H) :
    ReturnsInHanded {} Try.checked os 3 .any (Rows.deltaExamplesSpec.pre6 enc Try.prog Try.f3 Rows.deltaExamplesRow.domain false) (Rows.deltaExamplesSpec.post enc Try.prog Try.f3 false true false false) := by
  refine law_lifted (C := Try.checked) (tb := 4) started Try.own Try.laidOut (by kernel_rfl) Try.func3
    (ChangeSpec.witness6 (enc := enc) (C := Try.checked) false ⟨#[], #[], []⟩ 8 (by kernel_rfl) (by kernel_rfl) (by kernel_rfl) (by kernel_rfl))
    rfl rfl Try.underlying4 (by kernel_rfl) (fun ds h => ?_) (fun W base args ds p hval0 hA0 hsz0 hlt => ?_)
  · have h' : ds.length = Try.f3.params.toList.length := h
    rw [Try.params3] at h'
    match ds, h' with
    | [], _ => rfl
  · have hval : ∀ (j : Nat) t v, Try.f3.params[j]? = some t → args[j]? = some v → Value.okWide Try.prog W .any base t v := hval0
    have hA : DataW.TrodAll enc Try.prog W 0 (fun _ => true) true Try.f3.params.toList args.toList ds p := hA0
    have hsz : (DataW.weightsEach Try.prog Try.f3.params.toList ds).all (· ≤ reachBytes) = true := hsz0
    rw [Try.params3] at hA hval hsz
    clear hA0 hval0 hsz0
    obtain ⟨hargs, rfl, rfl⟩ := trodAll_nil hA
    obtain rfl : args = #[] := by cases args; simp_all
    change Calls Try.prog 3 #[] W (RetB (.bool true) W)
    go_enter Try.func3, Try.ntmps3
    go_wp2_with fail
    refine (enc101214_any _ _ (by decide) (by decide) _).mono ?_
    rintro e w' ⟨rfl, hb⟩
    have hb' := ((Below.refl W.heap.size W).alloc (Nat.le_refl _) (.cells #[.int .i64 10, .int .i64 12, .int .i64 14] 2)).trans (hb.mono (by simp))
    clear hb
    go_wp2
    go_ret
    exact RetB.mk rfl hb'
theorem deltaExamples_holds : Rows.DeltaExamplesSaid :=
  OpenClaim.holds_of_wide 3 Try.f3 rfl rfl rfl rfl rfl rfl rfl ⟨rfl, rfl, rfl, rfl, rfl⟩ rfl rfl rfl rfl rfl (by kernel_rfl) Try.func3 (by kernel_rfl)
    (of_decide_eq_true (by kernel_rfl)) (by unfold Func.isWrapper; first | (rw [if_pos (by decide +kernel)]; kernel_rfl) | (rw [if_neg (by decide +kernel)]; exact ⟨rfl, rfl⟩))
    (fun os started H enc _ => deltaExamples_lifted os started H enc)

set_option maxRecDepth 100000 in
set_option maxHeartbeats 4000000 in
theorem deltaEncodes_lifted (os : Os) (started : os.Started) (H : Type) (enc : TypeId × Value → H) :
    ReturnsInHanded {} Try.checked os 4 .any (Rows.deltaEncodesSpec.pre6 enc Try.prog Try.f4 Rows.deltaEncodesRow.domain false) (Rows.deltaEncodesSpec.post enc Try.prog Try.f4 false true false false) := by
  refine law_lifted (C := Try.checked) (tb := 4) started Try.own Try.laidOut (by kernel_rfl) Try.func4
    (ChangeSpec.witness6 (enc := enc) (C := Try.checked) false ⟨#[], #[.slice none 0 0, .slice none 0 0], []⟩ 8 (by kernel_rfl) (by kernel_rfl) (by kernel_rfl) (by kernel_rfl))
    rfl rfl Try.underlying4 (by kernel_rfl) (fun ds h => ?_) (fun W base args ds p hval0 hA0 hsz0 hlt => ?_)
  · have h' : ds.length = Try.f4.params.toList.length := h
    rw [Try.params4] at h'
    match ds, h' with
    | [_, _], _ => rfl
  · have hval : ∀ (j : Nat) t v, Try.f4.params[j]? = some t → args[j]? = some v → Value.okWide Try.prog W .any base t v := hval0
    have hA : DataW.TrodAll enc Try.prog W 0 (fun _ => true) true Try.f4.params.toList args.toList ds p := hA0
    have hsz : (DataW.weightsEach Try.prog Try.f4.params.toList ds).all (· ≤ reachBytes) = true := hsz0
    rw [Try.params4] at hA hval hsz
    clear hA0 hval0 hsz0
    obtain ⟨v0, vs0, d0, ds0, p0, q0, hargs, rfl, rfl, h0, r0⟩ := trodAll_cons hA
    obtain ⟨v1, vs1, d1, ds1, p1, q1, rfl, rfl, rfl, h1, r1⟩ := trodAll_cons r0
    obtain ⟨rfl, rfl, rfl⟩ := trodAll_nil r1
    obtain rfl : args = #[v0, v1] := by cases args; simp_all
    obtain ⟨zl, rl, wl, bl⟩ := open_rdI Try.underlying23 Try.underlying2 (by kernel_rfl) (hval 0 23 v0 rfl rfl) h0 hsz (j := 0) rfl rfl
    obtain ⟨zm, rm, wm, bm⟩ := open_rdI Try.underlying25 Try.underlying3 (by kernel_rfl) (hval 1 25 v1 rfl rfl) h1 hsz (j := 1) rfl rfl
    change Calls Try.prog 4 #[v0, v1] W (RetB (.bool true) W)
    have hi := I64.of wl
    have hrl := Lib.hid rl.toV
    clear bl wl rl bm
    have HK := Lib.hid (klist_any W v1 zm rm wm)
    clear rm wm
    go_enter Try.func4, Try.ntmps4
    go_wp2_with fail
    refine HK.out.mono ?_; rintro e w1 ⟨vx, lx, rfl, hown, hlx, hix, hB⟩
    have hrx := Lib.hid hown.read
    clear HK hown
    generalize hBx : w1.heap.size = Bx at hrx
    have hB1 := Below.refl Bx w1
    have hBx' := Nat.le_of_eq hBx.symm
    have hBB : W.heap.size ≤ Bx := by rw [← hBx]; exact hB.size
    have E1 := fun w (h : Below Bx w1 w) => Lib.hid (dencode_any v0 zl _ w (hrl.out.below (hB.trans (h.mono hBB))) (Nat.le_trans hBB (Nat.le_trans hBx' h.size)) hi)
    have E2 := fun w (h : Below Bx w1 w) => Lib.hid (rdencode_any v0 zl _ w (hrl.out.below (hB.trans (h.mono hBB))) (Nat.le_trans hBB (Nat.le_trans hBx' h.size)) hi)
    have E3 := fun w (h : Below Bx w1 w) => Lib.hid (dencode_any vx lx Bx w (hrx.out.below h) (Nat.le_trans hBx' h.size) hix)
    have E4 := fun w (h : Below Bx w1 w) => Lib.hid (rdencode_any vx lx Bx w (hrx.out.below h) (Nat.le_trans hBx' h.size) hix)
    clear hrl hrx hi hlx hix
    generalize str (encX zl) = S at *
    generalize str (encX lx) = T at *
    have hst : ∀ {w w' : World}, Below Bx w1 w → Below w.heap.size w w' → Below Bx w1 w' := fun h k => h.trans (k.mono (Nat.le_trans hBx' h.size))
    go_wp2_with fail
    refine (awake11_any _).mono ?_; rintro e w2 ⟨rfl, hb⟩; replace hB1 := hst hB1 hb; clear hb
    go_wp2_with fail
    refine (E1 _ hB1).out.mono ?_; rintro e w2 ⟨rfl, hb⟩; replace hB1 := hst hB1 hb; clear hb
    go_wp2_with fail
    refine (E2 _ hB1).out.mono ?_; rintro e w2 ⟨rfl, hb⟩; replace hB1 := hst hB1 hb; clear hb
    go_wp2_with fail
    refine (E3 _ hB1).out.mono ?_; rintro e w2 ⟨rfl, hb⟩; replace hB1 := hst hB1 hb; clear hb
    go_wp2_with fail
    refine (E4 _ hB1).out.mono ?_; rintro e w2 ⟨rfl, hb⟩; replace hB1 := hst hB1 hb; clear hb
    clear E1 E2 E3 E4
    go_wp2
    go_ret
    exact RetB.mk rfl (hB.trans (hB1.mono hBB))
theorem deltaEncodes_holds : Rows.DeltaEncodesSaid :=
  OpenClaim.holds_of_wide 4 Try.f4 rfl rfl rfl rfl rfl rfl rfl ⟨rfl, rfl, rfl, rfl, rfl⟩ rfl rfl rfl rfl rfl (by kernel_rfl) Try.func4 (by kernel_rfl)
    (of_decide_eq_true (by kernel_rfl)) (by unfold Func.isWrapper; first | (rw [if_pos (by decide +kernel)]; kernel_rfl) | (rw [if_neg (by decide +kernel)]; exact ⟨rfl, rfl⟩))
    (fun os started H enc _ => deltaEncodes_lifted os started H enc)

set_option maxRecDepth 100000 in
set_option maxHeartbeats 4000000 in
theorem deltaDecodes_lifted (os : Os) (started : os.Started) (H : Type) (enc : TypeId × Value → H) :
    ReturnsInHanded {} Try.checked os 5 .any (Rows.deltaDecodesSpec.pre6 enc Try.prog Try.f5 Rows.deltaDecodesRow.domain false) (Rows.deltaDecodesSpec.post enc Try.prog Try.f5 false true false false) := by
  refine law_lifted (C := Try.checked) (tb := 4) started Try.own Try.laidOut (by kernel_rfl) Try.func5
    (ChangeSpec.witness6 (enc := enc) (C := Try.checked) false ⟨#[], #[.string ⟨#[]⟩, .int .i64 0], []⟩ 8 (by kernel_rfl) (by kernel_rfl) (by kernel_rfl) (by kernel_rfl))
    rfl rfl Try.underlying4 (by kernel_rfl) (fun ds h => ?_) (fun W base args ds p hval0 hA0 hsz0 hlt => ?_)
  · have h' : ds.length = Try.f5.params.toList.length := h
    rw [Try.params5] at h'
    match ds, h' with
    | [_, _], _ => rfl
  · have hval : ∀ (j : Nat) t v, Try.f5.params[j]? = some t → args[j]? = some v → Value.okWide Try.prog W .any base t v := hval0
    have hA : DataW.TrodAll enc Try.prog W 0 (fun _ => true) true Try.f5.params.toList args.toList ds p := hA0
    have hsz : (DataW.weightsEach Try.prog Try.f5.params.toList ds).all (· ≤ reachBytes) = true := hsz0
    rw [Try.params5] at hA hval hsz
    clear hA0 hval0 hsz0
    obtain ⟨v0, vs0, d0, ds0, p0, q0, hargs, rfl, rfl, h0, r0⟩ := trodAll_cons hA
    obtain ⟨v1, vs1, d1, ds1, p1, q1, rfl, rfl, rfl, h1, r1⟩ := trodAll_cons r0
    obtain ⟨rfl, rfl, rfl⟩ := trodAll_nil r1
    obtain rfl : args = #[v0, v1] := by cases args; simp_all
    obtain ⟨s, rfl, rfl, rfl, _⟩ := open_string Try.underlying9 (hval 0 9 v0 rfl rfl) h0
    have zs : s.size ≤ 140737488351232 := by have h := sized_string hsz (j := 0) (t := 9) rfl rfl; rw [size_list] at h; exact h
    obtain ⟨n, rfl, rfl, rfl, wn⟩ := open_int Try.underlying3 (hval 1 3 v1 rfl rfl) h1
    change Calls Try.prog 5 #[.string s, .int .i64 n] W (RetB (.bool true) W)
    have HPK := fun w => Lib.hid (pick_at n 100 w wn (by omega) (by omega))
    have hp := pickN_bd n (n := 100) (by omega)
    generalize pickN n 100 = p at *
    obtain ⟨p1, p2⟩ := hp
    have hB := Below.refl W.heap.size W
    have H1 := fun w => Lib.hid (decodes_any s (p - 1) w zs)
    have H2 := fun w => Lib.hid (decodes_any s n w zs)
    go_enter Try.func5, Try.ntmps5
    go_wp2_with fail
    refine (awake11_any _).mono ?_; rintro e w1 ⟨rfl, hb⟩; replace hB := bel_trans hB hb; clear hb
    go_wp2_with fail
    refine (HPK _).out.mono ?_; rintro e w' ⟨rfl, rfl⟩
    go_wp2_with fail
    refine (H1 _).out.mono ?_; rintro e w2 ⟨rfl, hb⟩; replace hB := bel_trans hB hb; clear hb
    go_wp2_with fail
    refine (H2 _).out.mono ?_; rintro e w3 ⟨rfl, hb⟩; replace hB := bel_trans hB hb; clear hb
    clear H1 H2 HPK
    go_wp2
    go_ret
    exact RetB.mk rfl hB
theorem deltaDecodes_holds : Rows.DeltaDecodesSaid :=
  OpenClaim.holds_of_wide 5 Try.f5 rfl rfl rfl rfl rfl rfl rfl ⟨rfl, rfl, rfl, rfl, rfl⟩ rfl rfl rfl rfl rfl (by kernel_rfl) Try.func5 (by kernel_rfl)
    (of_decide_eq_true (by kernel_rfl)) (by unfold Func.isWrapper; first | (rw [if_pos (by decide +kernel)]; kernel_rfl) | (rw [if_neg (by decide +kernel)]; exact ⟨rfl, rfl⟩))
    (fun os started H enc _ => deltaDecodes_lifted os started H enc)
end Go.Proofs.Ytjoohmifbkbpbaa
