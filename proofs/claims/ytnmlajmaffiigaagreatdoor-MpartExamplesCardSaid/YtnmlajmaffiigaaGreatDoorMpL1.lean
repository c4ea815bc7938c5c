/- MpartExamples. -/
import Derived.Test.YtnmlajmaffiigaaGreatDoorMpL0
import Derived.Test.YtnmlajmaffiigaaGreatDoorMpF0
import Derived.Test.YtnmlajmaffiigaaGreatDoorMpc
import Derived.Test.YtnmlajmaffiigaaGreatDoorLaid
import Derived.Test.YtnmlajmaffiigaaGreatDoorMpa
namespace Go.MP
open Go.RowKit
theorem wrap_le (n k : Nat) (h : k ≤ n) (hn : n ≤ 100000000) : wrap64 ((n : Int) - (k : Int)) = (n : Int) - (k : Int) := by unfold wrap64; omega
end Go.MP
namespace Go.Proofs.YtnmlajmaffiigaaGreatDoor
open Go.RowKit Go.VB Go.VarM Go.BP Go.VS Go.VL Go.SC Go.CK Go.ST Go.MK Go.RS Go.ZN Go.MP Go.ChangeShapes Go.WideShapes Go.ChangeAt
set_option linter.constructorNameAsVariable false
set_option maxRecDepth 100000 in
set_option maxHeartbeats 1000000 in
theorem exm_walk (W : World) : Calls Tryz.prog 3 #[] W (RetB (.bool true) W) := by
  obtain ⟨e1, e2, e3⟩ := file_ends (chs [colA] [r74] ([colA].length + 1)) (footB (IDN [colA] 0) (chs [colA] [r74] ([colA].length + 1)) (infOf [colA] 0 [r74]))
  have hf : encF [colA] 0 [r74] = str (fileB (chs [colA] [r74] ([colA].length + 1)) (footB (IDN [colA] 0) (chs [colA] [r74] ([colA].length + 1)) (infOf [colA] 0 [r74]))) := encF_ok enc_74
  have HE := Lib.hid (fun (v x : Value) (w : World) (hv : RdC w w.heap.size v [colA]) (hx : RdR w w.heap.size x [r74]) => by
    have h := mencode_any [colA] v 0 x [r74] w hv hx in_74
    rw [hf, enc_74] at h
    exact h)
  have hsz0 : (str (fileB (chs [colA] [r74] ([colA].length + 1)) (footB (IDN [colA] 0) (chs [colA] [r74] ([colA].length + 1)) (infOf [colA] 0 [r74])))).size ≤ 100000000 := by
    have hS := srt_of srtd_74
    have := file_le hS (by decide) (by decide) in_74
    have h2 := bndN_le (n := [r74].length) (by decide) [colA]
    rw [str_size]
    simp only [List.length_cons, List.length_nil] at this h2
    unfold fileOf at this
    exact Nat.le_trans this (Nat.le_trans h2 (by decide))
  generalize str (fileB (chs [colA] [r74] ([colA].length + 1)) (footB (IDN [colA] 0) (chs [colA] [r74] ([colA].length + 1)) (infOf [colA] 0 [r74]))) = F at *
  clear hf
  have hN : F.size ≤ 100000000 := hsz0
  have HO := fun w => Lib.hid (one16_any w)
  obtain ⟨n, hn⟩ : ∃ n, F.size = n := ⟨_, rfl⟩
  have hz : (F.size : Int) = (n : Int) := by omega
  rw [hn] at e2 e3
  have hd8 : decide ((8 : Int) < (n : Int)) = true := decide_eq_true (by omega)
  go_enter Tryz.func3, Tryz.ntmps3
  go_wp2_with fail
  (with_reducible refine (HO _).out.mono ?_); rintro e w1 ⟨v, x, rfl, hv, hx, hb1⟩
  obtain ⟨vA, vc, rfl, -, -, -⟩ := id hv
  obtain ⟨xA, xc, xn, rfl, -, -, -⟩ := hx.bds
  have HV2 := Var2.new w1 (.slice vA 1 vc) (.int .i64 0) 24
  have hb2 := (Below.refl w1.heap.size w1).alloc (Nat.le_refl _) (.cells #[.slice vA 1 vc, .int .i64 0] 24)
  have HEN := Lib.hid (HE.out (.slice vA 1 vc) _ _ (hv.step hb2) (hx.step hb2))
  obtain ⟨v0, v1, -, -⟩ := HV2
  have HB := Lib.hid (bel_trans hb1 hb2)
  clear hv hx hb1 hb2 HE
  go_wp2_with fail
  (with_reducible refine HEN.out.mono ?_); rintro e w3 ⟨rfl, hb3⟩
  have HB3 := Lib.hid (bel_trans HB.out hb3)
  clear hb3 v0 v1 HEN
  have hq1 : ((F.extract 0 4).toList == [77, 80, 84, 49]) = true := by rw [e1, ByteArray.toList_eq]; rfl
  have hq2 : ((F.extract (n - 4) n).toList == [77, 80, 84, 49]) = true := by rw [e2, ByteArray.toList_eq]; rfl
  have hw4 : wrap64 ((n : Int) - 4) = (n : Int) - 4 := wrap_le n 4 (by omega) (by rw [← hn]; exact hN)
  have h4 : (4 : Int) ≤ (n : Int) := by omega
  have h4' : 4 ≤ n := by omega
  have ht4 : ((n : Int) - 4).toNat = n - 4 := by omega
  have h04 : (0 : Int) ≤ (n : Int) - 4 := by omega
  have h44 : (n : Int) - 4 ≤ (n : Int) := by omega
  clear e1 e2
  go_wp2_with fail
  all_goals first
    | (go_ret; exact RetB.mk rfl HB3.out)
    | done
set_option maxRecDepth 100000 in
set_option maxHeartbeats 4000000 in
theorem mpartExamples_lifted (os : Os) (started : os.Started) (H : Type) (enc : TypeId × Value → H) :
    ReturnsInHanded {} Tryz.checked os 3 .any (fun w args => (Rows.mpartExamplesSpec.pre enc Tryz.prog Tryz.f3 Rows.mpartExamplesRow.domain false w args ∧ laidMetH Tryz.prog Rows.mpartExamplesRow.laid w) ∧ sizedMet enc Tryz.prog Tryz.f3 (OpenSpec.ofChange Rows.mpartExamplesSpec) false w args) (Rows.mpartExamplesSpec.post enc Tryz.prog Tryz.f3 false true false false) := by
  refine laid_lifted (C := Tryz.checked) (tb := 4) (laid := Rows.mpartExamplesRow.laid) started Tryz.own Tryz.laidOut (by kernel_rfl) Tryz.func3
    (ChangeSpec.witness_shaped (enc := enc) (C := Tryz.checked) (os := os) (X := fun w _ => laidMetH Tryz.prog Rows.mpartExamplesRow.laid w) false (World.laidAll Tryz.prog os Rows.mpartExamplesRow.laid) #[] 8 (World.laidAll_os _ _ _) (World.shaped_of_ZipB (by kernel_rfl) (by kernel_rfl)) (by kernel_rfl) (by kernel_rfl) (by kernel_rfl) (by rw [MakeChecks.laidMetH_plain _ _ _ (by kernel_rfl)]; exact laidMet_laidAll _ (by kernel_rfl) (by kernel_rfl)))
    rfl rfl Tryz.underlying4 (by kernel_rfl) (fun ds h => ?_) (fun W base args ds p hval0 hA0 hsz0 hlt hL => ?_)
  · have h' : ds.length = Tryz.f3.params.toList.length := h
    rw [Tryz.params3] at h'
    match ds, h' with
    | [], _ => rfl
  · have hval : ∀ (j : Nat) t v, Tryz.f3.params[j]? = some t → args[j]? = some v → Value.okWide Tryz.prog W .any base t v := hval0
    have hA : DataW.TrodAll enc Tryz.prog W 0 (fun _ => true) true Tryz.f3.params.toList args.toList ds p := hA0
    have hsz : (DataW.weightsEach Tryz.prog Tryz.f3.params.toList ds).all (· ≤ reachBytes) = true := hsz0
    rw [Tryz.params3] at hA hval hsz
    clear hA0 hval0 hsz0
    have ht : TabOk W := tab_of_laid hL
    clear hL
    obtain ⟨hargs, rfl, rfl⟩ := trodAll_nil hA
    obtain rfl : args = #[] := by cases args; simp_all
    change Calls Tryz.prog 3 #[] W (RetB (.bool true) W)
    exact exm_walk W
theorem mpartExamples_holds : Rows.MpartExamplesSaid :=
  OpenClaim.holds_of_wide 3 Tryz.f3 rfl rfl rfl rfl rfl rfl rfl ⟨rfl, rfl, rfl, rfl, rfl⟩ rfl rfl rfl rfl rfl (by kernel_rfl) Tryz.func3 jf_mpartExamples
    (of_decide_eq_true (by kernel_rfl)) (by unfold Func.isWrapper; first | (rw [if_pos (by decide +kernel)]; kernel_rfl) | (rw [if_neg (by decide +kernel)]; exact ⟨rfl, rfl⟩))
    (fun os started H enc _ => mpartExamples_lifted os started H enc)
theorem mpartExamples_card : Rows.MpartExamplesCardSaid :=
  Claim7.holds_tied_plain_at .later [] [.data, .data, .data] true Rows.mpartExamplesCard.stood.harness false mpartExamples_holds (fun _ h => by cases h) (by kernel_rfl) (fun _ h => by cases h) mpartExamples_row_tie rfl ⟨rfl, rfl⟩ (by kernel_rfl) rfl
    (fun f fn hf hfn => by
      obtain rfl : f = 3 := Option.some.inj ((show Tryz.prog.funcNamed Rows.mpartExamplesRow.func = some 3 by kernel_rfl).symm.trans hf) |>.symm
      obtain rfl : fn = Tryz.f3 := (Option.some.inj (Tryz.func3.symm.trans hfn)).symm
      exact ⟨by kernel_rfl, fun j t ht => by
        rw [Tryz.params3] at ht
        have hm : t ∈ [] := by simpa using Array.mem_of_getElem? ht
        have hall : ([].all fun u => !Tryz.prog.wantsStandIn u) = true := by kernel_rfl
        exact (show Tryz.prog.wantsStandIn t = false by simpa using List.all_eq_true.1 hall t hm)⟩)
    (by kernel_rfl)
end Go.Proofs.YtnmlajmaffiigaaGreatDoor
