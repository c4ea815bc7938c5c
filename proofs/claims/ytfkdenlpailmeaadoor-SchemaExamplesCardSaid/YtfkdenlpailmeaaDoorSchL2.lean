/- SchemaExamples: a tied card; the tables that its row lists are never read (the scale is below 100). No condition. -/
import Derived.Test.YtfkdenlpailmeaaDoorSchL
namespace Go.Proofs.YtfkdenlpailmeaaDoor
open Go.RowKit Go.VB Go.VL Go.SC Go.ChangeShapes Go.WideShapes Go.ChangeAt
set_option linter.constructorNameAsVariable false
set_option maxRecDepth 100000 in
set_option maxHeartbeats 1000000 in
theorem example7_any (w : World) : Calls Tryd.prog 9 #[] w (Ret (.string (str exL)) w) := by
  go_enter Tryd.func9, Tryd.ntmps9
  go_wp2
  go_ret
  exact Ret.mk rfl
set_option maxRecDepth 100000 in
set_option maxHeartbeats 2000000 in
theorem exs_walk (W : World) : Calls Tryd.prog 3 #[] W (RetB (.bool true) W) := by
  have hEx := fun w => Lib.hid (example7_any w)
  have HP := fun w => Lib.hid (parse_any exL w)
  rw [ex_read] at HP
  have HF := fun v w h => Lib.hid (format_any exCs v 0 w h)
  rw [FT_ok ex_chk, ex_fmt, ex_chk] at HF
  have HN := fun v w h => Lib.hid (find_any exCs v 0 ⟨#[112, 114, 105, 99, 101]⟩ w h)
  rw [show fnd exCs ⟨#[112, 114, 105, 99, 101]⟩ = 1 from by decide +kernel] at HN
  have HC := fun v w h => Lib.hid (check_any exCs v 0 w h)
  rw [ex_chk] at HC
  have e1 : ((str exL).toList == (str exL).toList) = true := beq_self_eq_true _
  generalize str exL = T at *
  go_enter Tryd.func3, Tryd.ntmps3
  go_wp2_with fail
  refine (hEx _).out.mono ?_
  rintro e w' ⟨rfl, rfl⟩
  go_wp2_with fail
  refine (HP _).out.mono ?_
  rintro e w1 ⟨hb1, v1, rfl, ho1⟩
  have hR1 := ho1.read
  obtain ⟨A1, cap1, rfl, hcap, hmx, hcell⟩ := id hR1
  clear HP ho1
  simp only at hR1 hcap hcell ⊢
  obtain ⟨ad, rfl, had, hat⟩ := hcell 1 (by decide)
  have hal : Below w1.heap.size w1 (w1.alloc (.cells #[.slice (some ad) exCs.length cap1, .int .i64 0] 24)) := (Below.refl _ _).alloc (Nat.le_refl _) _
  have hV := Var2.new w1 (.slice (some ad) exCs.length cap1) (.int .i64 0) 24
  have hR2 := hR1.step hal
  have hB := bel_trans hb1 hal
  have hat2 := hat.below hal had
  have hF2 := Lib.hid (HF _ _ hR2).out
  clear hat hR1 hb1 hcell HF hal
  rw [show exCs.length = 2 from rfl] at *
  obtain ⟨l0, l1, f0, f1⟩ := id hV
  go_wp2_with fail
  clear l0 l1 f0 f1
  generalize w1.heap.size = g at *
  generalize w1.alloc (.cells #[.slice (some ad) 2 cap1, .int .i64 0] 24) = w2 at *
  refine hF2.out.mono ?_
  rintro e w3 ⟨rfl, hb3⟩
  have hgl := hV.lt
  replace hB := bel_trans hB hb3
  replace hV := hV.step hb3
  replace hR2 := hR2.step hb3
  replace hat2 := hat2.below hb3 (by omega)
  clear hb3 hF2
  obtain ⟨q0, q1, q2, q3⟩ := hat2
  rw [show 1 * 4 = 4 from rfl] at q0 q1 q2 q3
  rw [at_k _ (by decide)] at q0 q1 q2 q3
  simp only at q0 q1 q2 q3
  rw [Nat.add_assoc] at q1 q2 q3
  change _ = some (Value.string ⟨#[112, 114, 105, 99, 101]⟩) at q0
  change _ = some (Value.int .i64 5) at q1
  change _ = some (Value.int .i64 2) at q2
  change _ = some (Value.bool true) at q3
  obtain ⟨l0, l1, _, _⟩ := id hV
  go_wp2_with fail
  refine (hEx _).out.mono ?_
  rintro e w' ⟨rfl, rfl⟩
  go_wp2_with fail
  clear l0 l1 q0 q1 q2 q3
  refine (HN _ _ hR2).out.mono ?_
  rintro e w4 ⟨rfl, hb4⟩
  replace hB := bel_trans hB hb4
  replace hR2 := hR2.step hb4
  obtain ⟨l0, l1, _, _⟩ := hV.step hb4
  clear hb4 hV
  go_wp2_with fail
  refine (HC _ _ hR2).out.mono ?_
  rintro e w5 ⟨rfl, hb5⟩
  go_wp2_with fail
  go_ret
  exact RetB.mk rfl (bel_trans hB hb5)
set_option maxRecDepth 100000 in
set_option maxHeartbeats 4000000 in
theorem schemaExamples_lifted (os : Os) (started : os.Started) (H : Type) (enc : TypeId × Value → H) :
    ReturnsInHanded {} Tryd.checked os 3 .any (fun w args => (Rows.schemaExamplesSpec.pre enc Tryd.prog Tryd.f3 Rows.schemaExamplesRow.domain false w args ∧ laidMetH Tryd.prog Rows.schemaExamplesRow.laid w) ∧ sizedMet enc Tryd.prog Tryd.f3 (OpenSpec.ofChange Rows.schemaExamplesSpec) false w args) (Rows.schemaExamplesSpec.post enc Tryd.prog Tryd.f3 false true false false) := by
  refine laid_lifted (C := Tryd.checked) (tb := 4) (laid := Rows.schemaExamplesRow.laid) started Tryd.own Tryd.laidOut (by kernel_rfl) Tryd.func3
    (ChangeSpec.witness_shaped (enc := enc) (C := Tryd.checked) (os := os) (X := fun w _ => laidMetH Tryd.prog Rows.schemaExamplesRow.laid w) false (World.laidAll Tryd.prog os Rows.schemaExamplesRow.laid) #[] 8 (World.laidAll_os _ _ _) (World.shaped_of_ZipB (by kernel_rfl) (by kernel_rfl)) (by kernel_rfl) (by kernel_rfl) (by kernel_rfl) (by rw [MakeChecks.laidMetH_plain _ _ _ (by kernel_rfl)]; exact laidMet_laidAll _ (by kernel_rfl) (by kernel_rfl)))
    rfl rfl Tryd.underlying4 (by kernel_rfl) (fun ds h => ?_) (fun W base args ds p hval0 hA0 hsz0 hlt hL => ?_)
  · have h' : ds.length = Tryd.f3.params.toList.length := h
    rw [Tryd.params3] at h'
    match ds, h' with
    | [], _ => rfl
  · have hval : ∀ (j : Nat) t v, Tryd.f3.params[j]? = some t → args[j]? = some v → Value.okWide Tryd.prog W .any base t v := hval0
    have hA : DataW.TrodAll enc Tryd.prog W 0 (fun _ => true) true Tryd.f3.params.toList args.toList ds p := hA0
    have hsz : (DataW.weightsEach Tryd.prog Tryd.f3.params.toList ds).all (· ≤ reachBytes) = true := hsz0
    rw [Tryd.params3] at hA hval hsz
    clear hA0 hval0 hsz0
    have ht : TabOk W := tab_of_laid hL
    clear hL
    obtain ⟨hargs, rfl, rfl⟩ := trodAll_nil hA
    obtain rfl : args = #[] := by cases args; simp_all
    change Calls Tryd.prog 3 #[] W (RetB (.bool true) W)
    exact exs_walk W
theorem schemaExamples_holds : Rows.SchemaExamplesSaid :=
  OpenClaim.holds_of_wide 3 Tryd.f3 rfl rfl rfl rfl rfl rfl rfl ⟨rfl, rfl, rfl, rfl, rfl⟩ rfl rfl rfl rfl rfl (by kernel_rfl) Tryd.func3 (by kernel_rfl)
    (of_decide_eq_true (by kernel_rfl)) (by unfold Func.isWrapper; first | (rw [if_pos (by decide +kernel)]; kernel_rfl) | (rw [if_neg (by decide +kernel)]; exact ⟨rfl, rfl⟩))
    (fun os started H enc _ => schemaExamples_lifted os started H enc)
theorem schemaExamples_card : Rows.SchemaExamplesCardSaid :=
  Claim7.holds_tied_plain_at .later [] [.data, .data, .data] true Rows.schemaExamplesCard.stood.harness false schemaExamples_holds (fun _ h => by cases h) (by kernel_rfl) (fun _ h => by cases h) schemaExamples_row_tie rfl ⟨rfl, rfl⟩ (by kernel_rfl) rfl
    (fun f fn hf hfn => by
      obtain rfl : f = 3 := Option.some.inj ((show Tryd.prog.funcNamed Rows.schemaExamplesRow.func = some 3 by kernel_rfl).symm.trans hf) |>.symm
      obtain rfl : fn = Tryd.f3 := (Option.some.inj (Tryd.func3.symm.trans hfn)).symm
      exact ⟨by kernel_rfl, fun j t ht => by
        rw [Tryd.params3] at ht
        have hm : t ∈ [] := by simpa using Array.mem_of_getElem? ht
        have hall : ([].all fun u => !Tryd.prog.wantsStandIn u) = true := by kernel_rfl
        exact (show Tryd.prog.wantsStandIn t = false by simpa using List.all_eq_true.1 hall t hm)⟩)
    (by kernel_rfl)
end Go.Proofs.YtfkdenlpailmeaaDoor
