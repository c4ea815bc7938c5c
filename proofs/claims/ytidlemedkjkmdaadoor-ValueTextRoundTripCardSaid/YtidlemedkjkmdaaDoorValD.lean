/- Rows that list variables: the lifting of a law's walk, and the first card: ValueExamples. -/
import Derived.Test.YtidlemedkjkmdaaDoorValS
import Derived.Test.YtidlemedkjkmdaaDoorValP
import Derived.Test.YtidlemedkjkmdaaDoorCards
import Derived.Test.YtidlemedkjkmdaaDoorTie
import Derived.Lay
import Derived.LaidOnce
import Derived.SevenTiedAt
namespace Go.VB
open Go.RowKit Go.ChangeShapes Go.WideShapes Go.ChangeAt
variable {H : Type} {enc : TypeId × Value → H}
/-- A law whose row lists variables: whatever can be read among its arguments, the walk returns true and leaves what was there. -/
theorem laid_lifted {C : Checked} {f : FuncId} {fn : Func} {s : ChangeSpec} {tb : TypeId} {os : Os} {laid : List (String × DataW Unit)} (started : os.Started)
    (own : ownKnob C.prog.godebug = none) (laidOut : laidOutB C.prog = true) (noInit : C.prog.inits.idxOf? f = none) (hfn : C.prog.funcs[f]? = some fn)
    (witness : ∃ (w : World) (tape : Tape) (i : Input), w.os = os ∧ (w.forCall tape i).Shaped C.prog ∧ i.vars = [] ∧ Input.okWide C.prog (w.forCall tape i) .any w.heap.size f i ∧
      ((s.pre enc C.prog fn [] false (w.forCall tape i).memory i.args ∧ laidMetH C.prog laid (w.forCall tape i).memory) ∧ sizedMet enc C.prog fn (OpenSpec.ofChange s) false (w.forCall tape i).memory i.args) ∧ ({ modest := false } : Assume).holds C.prog (lone (Frame.enter C.prog f i.args .normal) [] (w.forCall tape i)))
    (hvars : s.vars = []) (hres : fn.resultTypes = #[tb]) (hbool : C.prog.underlying tb = some .bool)
    (hparams0 : (fn.params.toList.all fun t => C.prog.readableRec t && decide (t < C.prog.types.size)) = true)
    (hspec : ∀ ds : List (DataW H), ds.length = fn.params.toList.length → s.fn H ds = { results := [.lit (.bool true)], args := ds })
    (walk : ∀ (W : World) (base : Nat) (args : Array Value) (ds : List (DataW H)) (p : List MemPlace),
      (∀ (j : Nat) t v, fn.params[j]? = some t → args[j]? = some v → Value.okWide C.prog W .any base t v) →
      DataW.TrodAll enc C.prog W 0 (fun _ => true) true fn.params.toList args.toList ds p →
      (DataW.weightsEach C.prog fn.params.toList ds).all (· ≤ reachBytes) = true →
      (∀ x ∈ p, x.block < W.heap.size) → laidMetH C.prog laid W →
      Calls C.prog f args W (RetB (.bool true) W)) :
    ReturnsInHanded {} C os f .any (fun w args => (s.pre enc C.prog fn [] false w args ∧ laidMetH C.prog laid w) ∧ sizedMet enc C.prog fn (OpenSpec.ofChange s) false w args) (s.post enc C.prog fn false true false false) := by
  have hparams : ∀ t ∈ fn.params.toList, C.prog.readableRec t = true ∧ t < C.prog.types.size := fun t ht => by
    have := List.all_eq_true.1 hparams0 t ht
    simpa using this
  refine returnsInHanded_of_change_and (X := fun w _ => laidMetH C.prog laid w) (fun _ _ _ hh h => h.of_heap hh) own started noInit hfn witness ?_
  intro W base args ds gs before hval hW _ hsz hL _
  have hW' := hW
  obtain ⟨p, q, hA, hV, rfl, _, _⟩ := hW
  rw [hvars] at hV
  obtain ⟨rfl, rfl⟩ := trodVars_none hV
  have hlt : ∀ x ∈ p, x.block < W.heap.size := fun x hx => hW'.lt x (List.mem_append_left _ hx)
  have hsz' : (DataW.weightsEach C.prog fn.params.toList ds).all (· ≤ reachBytes) = true := by
    have e : s.plain.varTypes C.prog = [] := by simp [ChangeSpec.plain, DataSpec.varTypes, hvars]
    rw [e, List.append_nil, List.append_nil] at hsz
    exact hsz
  refine (walk W base args ds p hval hA hsz' hlt hL).mono fun e W' he => ?_
  obtain ⟨rfl, hb⟩ := he
  have hs := hspec ds (trodAll_length _ _ _ _ hA)
  have e0 : ds ++ [] = ds := List.append_nil ds
  refine ⟨_, rfl, ds, [], p ++ [], [], p, [], hW', ?_, ?_, ?_, hb.frame _, fun h => by cases h⟩
  · rw [e0, hs, hres]
    exact trodAll_mk1 (shut_bool hbool _)
  · rw [e0, hs]
    exact trodAll_below laidOut hb _ _ _ _ hparams hlt hA
  · rw [e0, hs, hvars]
    exact rfl
end Go.VB
namespace Go.Proofs.YtidlemedkjkmdaaDoor
open Go.RowKit Go.VB Go.VL Go.ChangeShapes Go.WideShapes Go.ChangeAt
set_option linter.constructorNameAsVariable false
/-- What the three rows list says that the table stands. -/
theorem tab_of_laid {W : World} (h : laidMetH Tryd.prog Rows.valueExamplesRow.laid W) : TabOk W := by
  rw [MakeChecks.laidMetH_plain _ _ _ (by kernel_rfl)] at h
  obtain ⟨g, t, cs, fuel, p, hg, ht, hv, hd⟩ := Lib.laidMet.reads h (.tail _ (.tail _ (.head _)))
  obtain rfl := Option.some.inj (tab_num.symm.trans hg)
  obtain rfl := Option.some.inj ((show (Tryd.prog.globals[0]?).map (·.type) = some 95 by kernel_rfl).symm.trans ht)
  unfold TabOk Lib.TabIs
  rw [hv, ← Lib.cells_of_tab (k := .u64) (zs := Lib.pow10Tab) Tryd.underlying95 Tryd.underlying46 (by kernel_rfl) (by kernel_rfl) hd]
theorem six_text : str (putV false 3 ⟨#[]⟩) = ⟨#[1, 6, 0]⟩ := by
  have h0 : Go.VarM.putL 0 = [0] := Go.VarM.putL_lt (by omega)
  have h6 : Go.VarM.putL 6 = [6] := Go.VarM.putL_lt (by omega)
  show str ([1] ++ Go.VarM.putL 6 ++ Go.VarM.putL 0 ++ []) = _
  rw [h0, h6]; rfl
set_option maxRecDepth 100000 in
set_option maxHeartbeats 2000000 in
theorem examples_walk (W : World) (ht : TabOk W) : Calls Tryd.prog 3 #[] W (RetB (.bool true) W) := by
  have hF := vFormat_any ⟨#[]⟩ 3 0 false false 0 ⟨#[1, 2]⟩ W (by decide) ht
  rw [show FR 3 0 false false 0 ⟨#[1, 2]⟩ = .tuple #[.string ⟨#[34, 48, 49, 48, 50, 34]⟩, .int .i64 0] from by rw [FR_val (by decide) (by decide)]; rfl] at hF
  have HF := Lib.hid hF
  have HP := fun w => Lib.hid (putV_any false 3 ⟨#[]⟩ w (by decide) (by decide))
  rw [six_text] at HP
  clear hF ht
  go_enter Tryd.func3, Tryd.ntmps3
  go_wp2_with fail
  refine HF.out.mono ?_
  rintro e w1 ⟨rfl, hb1⟩
  go_wp2_with fail
  refine (HP _).out.mono ?_
  rintro e w2 ⟨rfl, hb2⟩
  go_wp2
  go_ret
  exact RetB.mk rfl (bel_trans hb1 hb2)
set_option maxRecDepth 100000 in
set_option maxHeartbeats 4000000 in
theorem valueExamples_lifted (os : Os) (started : os.Started) (H : Type) (enc : TypeId × Value → H) :
    ReturnsInHanded {} Tryd.checked os 3 .any (fun w args => (Rows.valueExamplesSpec.pre enc Tryd.prog Tryd.f3 Rows.valueExamplesRow.domain false w args ∧ laidMetH Tryd.prog Rows.valueExamplesRow.laid w) ∧ sizedMet enc Tryd.prog Tryd.f3 (OpenSpec.ofChange Rows.valueExamplesSpec) false w args) (Rows.valueExamplesSpec.post enc Tryd.prog Tryd.f3 false true false false) := by
  refine laid_lifted (C := Tryd.checked) (tb := 4) (laid := Rows.valueExamplesRow.laid) started Tryd.own Tryd.laidOut (by kernel_rfl) Tryd.func3
    (ChangeSpec.witness_shaped (enc := enc) (C := Tryd.checked) (os := os) (X := fun w _ => laidMetH Tryd.prog Rows.valueExamplesRow.laid w) false (World.laidAll Tryd.prog os Rows.valueExamplesRow.laid) #[] 8 (World.laidAll_os _ _ _) (World.shaped_of_ZipB (by kernel_rfl) (by kernel_rfl)) (by kernel_rfl) (by kernel_rfl) (by kernel_rfl) (by rw [MakeChecks.laidMetH_plain _ _ _ (by kernel_rfl)]; exact laidMet_laidAll _ (by kernel_rfl) (by kernel_rfl)))
    rfl rfl Tryd.underlying4 (by kernel_rfl) (fun ds h => ?_) (fun W base args ds p hval0 hA0 hsz0 hlt hL => ?_)
  · have h' : ds.length = Tryd.f3.params.toList.length := h
    rw [Tryd.params3] at h'
    match ds, h' with
    | [], _ => rfl
  · have hval : ∀ (j : Nat) t v, Tryd.f3.params[j]? = some t → args[j]? = some v → Value.okWide Tryd.prog W .any base t v := hval0
    have hA : DataW.TrodAll enc Tryd.prog W 0 (fun _ => true) true Tryd.f3.params.toList args.toList ds p := hA0
    have hsz : (DataW.weightsEach Tryd.prog Tryd.f3.params.toList ds).all (· ≤ reachBytes) = true := hsz0
    rw [Tryd.params3] at hA hval hsz
    clear hA0 hval0 hsz0
    have ht : TabOk W := tab_of_laid hL
    clear hL
    obtain ⟨hargs, rfl, rfl⟩ := trodAll_nil hA
    obtain rfl : args = #[] := by cases args; simp_all
    change Calls Tryd.prog 3 #[] W (RetB (.bool true) W)
    exact examples_walk W ht
theorem valueExamples_holds : Rows.ValueExamplesSaid :=
  OpenClaim.holds_of_wide 3 Tryd.f3 rfl rfl rfl rfl rfl rfl rfl ⟨rfl, rfl, rfl, rfl, rfl⟩ rfl rfl rfl rfl rfl (by kernel_rfl) Tryd.func3 (by kernel_rfl)
    (of_decide_eq_true (by kernel_rfl)) (by unfold Func.isWrapper; first | (rw [if_pos (by decide +kernel)]; kernel_rfl) | (rw [if_neg (by decide +kernel)]; exact ⟨rfl, rfl⟩))
    (fun os started H enc _ => valueExamples_lifted os started H enc)
theorem valueExamples_card : Rows.ValueExamplesCardSaid :=
  Claim7.holds_tied_plain_at .later [] [.data, .data, .data] true Rows.valueExamplesCard.stood.harness false valueExamples_holds (fun _ h => by cases h) (by kernel_rfl) (fun _ h => by cases h) valueExamples_row_tie rfl ⟨rfl, rfl⟩ (by kernel_rfl) rfl
    (fun f fn hf hfn => by
      obtain rfl : f = 3 := Option.some.inj ((show Tryd.prog.funcNamed Rows.valueExamplesRow.func = some 3 by kernel_rfl).symm.trans hf) |>.symm
      obtain rfl : fn = Tryd.f3 := (Option.some.inj (Tryd.func3.symm.trans hfn)).symm
      exact ⟨by kernel_rfl, fun j t ht => by
        rw [Tryd.params3] at ht
        have hm : t ∈ [] := by simpa using Array.mem_of_getElem? ht
        have hall : ([].all fun u => !Tryd.prog.wantsStandIn u) = true := by kernel_rfl
        exact (show Tryd.prog.wantsStandIn t = false by simpa using List.all_eq_true.1 hall t hm)⟩)
    (by kernel_rfl)
end Go.Proofs.YtidlemedkjkmdaaDoor
