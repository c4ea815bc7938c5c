/- The statements of layer 14: what comes in, the example, the first word of each statement. -/
import Derived.Test.YthohmngckpjlbaaZoW3
import Derived.Test.YthohmngckpjlbaaZoW5
import Derived.Test.YthohmngckpjlbaaValA
import Derived.Test.YthohmngckpjlbaaKvals
import Derived.BigQuiet
namespace Go.ZN
open Go.RowKit Go.VB Go.VS Go.VL Go.CK
/-- The values of the example. -/
def fourL : List Vl := [⟨false, 3, ⟨#[]⟩⟩, ⟨true, 0, ⟨#[]⟩⟩, ⟨false, 1, ⟨#[]⟩⟩]
theorem zof_four : (zof 1 fourL).val = (.agg #[.int .i64 3, .int .i64 1, .bool false, .int .i64 1, .string ⟨#[]⟩, .bool false, .int .i64 3, .string ⟨#[]⟩]) := rfl
theorem four_ok : ∀ x ∈ fourL, chkV 1 true x = 0 := by
  intro x hx
  simp only [fourL, List.mem_cons, List.not_mem_nil, or_false] at hx
  rcases hx with rfl | rfl | rfl <;> decide
theorem zchk_four : zchk 1 true ⟨3, 1, ⟨false, 1, ⟨#[]⟩⟩, ⟨false, 3, ⟨#[]⟩⟩⟩ = true := zchk_zof (ty := 1) (nu := true) (l := fourL) (by decide) (by decide) four_ok
/-- It returns values that can be read. -/
def RetRd (l : List Vl) (w : World) : Ending → World → Prop := fun en w' => ∃ v, en = .returned v ∧ RdL w' w'.heap.size v l ∧ Below w.heap.size w w'
end Go.ZN
namespace Go.Proofs.Ythohmngckpjlbaa
open Go.RowKit Go.VB Go.VL Go.VS Go.ZN Go.CK Go.ChangeShapes Go.WideShapes Go.ChangeAt
set_option linter.constructorNameAsVariable false
theorem Try.cellsZn : Try.prog.cellsOf 25 = 8 := by kernel_rfl
theorem Try.cellsZi : Try.prog.cellsOf 3 = 1 := by kernel_rfl
theorem Try.cellsZv : Try.prog.cellsOf 23 = 3 := by kernel_rfl
theorem Try.cellsZb : Try.prog.cellsOf 4 = 1 := by kernel_rfl
theorem Try.cellsZl : Try.prog.cellsOf 2 = 1 := by kernel_rfl
theorem Try.cellsZs : Try.prog.cellsOf 9 = 1 := by kernel_rfl
section
variable {H : Type} {enc : TypeId × Value → H}
theorem open_zone {r : Reach} {b0 : Nat} {w : World} {v : Value} {d : DataW H} {ps : List MemPlace} {held : Bool} (hval : Value.okWide Try.prog w r b0 25 v)
    (hd : DataW.Trod enc Try.prog w 0 (fun _ => true) held 25 v d ps) {ts : List TypeId} {ds : List (DataW H)} (hsz : (DataW.weightsEach Try.prog ts ds).all (· ≤ reachBytes) = true) {j : Nat} (hj : ts[j]? = some 25) (hdj : ds[j]? = some d) :
    ∃ rows nulls mb mi ms xb xi xs, v = (.agg #[.int .i64 rows, .int .i64 nulls, .bool mb, .int .i64 mi, .string ms, .bool xb, .int .i64 xi, .string xs]) ∧ (Lit.int .i64 rows).wf = true ∧ (Lit.int .i64 nulls).wf = true ∧ (Lit.int .i64 mi).wf = true ∧ ms.size ≤ 140737488351232 ∧ (Lit.int .i64 xi).wf = true ∧ xs.size ≤ 140737488351232 := by
  obtain ⟨cs, rfl, hcz⟩ := okWide_struct Try.underlying25 hval
  rw [Try.cellsZn] at hcz
  obtain ⟨l⟩ := cs
  match l, hcz with
  | [c0, c1, c2, c3, c4, c5, c6, c7], _ =>
  obtain ⟨fuel, hf⟩ := hd
  obtain ⟨xs, n, _, hdp, _, hlen, hfs⟩ := DataW.trod_struct Try.underlying25 hf
  match xs, hlen with
  | [y0, y1, y2, y3], _ =>
  obtain ⟨rows, e0, _, w0⟩ := DataW.trod_int Try.underlying3 (hfs 0 _ rfl)
  obtain ⟨nulls, e1, _, w1⟩ := DataW.trod_int Try.underlying3 (hfs 1 _ rfl)
  obtain ⟨us, n2, _, hd2, _, hlen2, hf2⟩ := DataW.trod_struct Try.underlying23 (hfs 2 _ rfl)
  match us, hlen2 with
  | [a0, a1, a2], _ =>
  obtain ⟨us3, n3, _, hd3, _, hlen3, hf3⟩ := DataW.trod_struct Try.underlying23 (hfs 3 _ rfl)
  match us3, hlen3 with
  | [d0, d1, d2], _ =>
  obtain ⟨mb, e2, _⟩ := DataW.trod_bool Try.underlying4 (hf2 0 _ rfl)
  obtain ⟨mi, e3, _, w3⟩ := DataW.trod_int Try.underlying2 (hf2 1 _ rfl)
  obtain ⟨ms, e4, g4, w4⟩ := DataW.trod_string Try.underlying9 (hf2 2 _ rfl)
  obtain ⟨xb, e5, _⟩ := DataW.trod_bool Try.underlying4 (hf3 0 _ rfl)
  obtain ⟨xi, e6, _, w6⟩ := DataW.trod_int Try.underlying2 (hf3 1 _ rfl)
  obtain ⟨xs, e7, g7, w7⟩ := DataW.trod_string Try.underlying9 (hf3 2 _ rfl)
  simp [Value.cells, Try.cellsZi, Try.cellsZv, Try.cellsZb, Try.cellsZl, Try.cellsZs] at e0 e1 e2 e3 e4 e5 e6 e7
  subst e0 e1 e2 e3 e4 e5 e6 e7
  have hw : ∀ n ∈ d.weights Try.prog 25, n ≤ reachBytes := fun n hn => by
    have := List.all_eq_true.1 hsz _ (DataW.weights_mem_each hj hdj n hn)
    simpa using this
  have hde : d = .agg [y0.1, y1.1, y2.1, y3.1] := by
    have := congrArg Prod.fst hdp
    simpa using this
  have h2e : y2.1 = .agg [a0.1, a1.1, .lit (.string ms.data.toList)] := by
    have := congrArg Prod.fst hd2
    rw [show a2 = _ from g4] at this
    simpa using this
  have h3e : y3.1 = .agg [d0.1, d1.1, .lit (.string xs.data.toList)] := by
    have := congrArg Prod.fst hd3
    rw [show d2 = _ from g7] at this
    simpa using this
  rw [hde, h2e, h3e] at hw
  have z1 : ms.data.toList.length ≤ reachBytes := hw _ (by simp [DataW.weights, DataW.weightsEach, Try.underlying25, Try.underlying23])
  have z2 : xs.data.toList.length ≤ reachBytes := hw _ (by simp [DataW.weights, DataW.weightsEach, Try.underlying25, Try.underlying23])
  rw [size_list] at z1 z2
  have hrb : reachBytes ≤ 140737488351232 := by decide
  exact ⟨rows, nulls, mb, mi, ms, xb, xi, xs, rfl, w0, w1, w3, Nat.le_trans z1 hrb, w6, Nat.le_trans z2 hrb⟩
end
set_option maxRecDepth 100000 in
set_option maxHeartbeats 400000 in
theorem four_any (w : World) : Calls Try.prog 11 #[] w (RetRd fourL w) := by
  have HR := Lib.hid ((RdL.lit w fourL 3 23 (by decide) (by decide)).more (show w.heap.size + 1 ≤ (w.alloc (.cells (vlCells fourL).toArray 23)).heap.size by simp))
  have hb : Below w.heap.size w (w.alloc (.cells #[.bool false, .int .i64 3, .string ⟨#[]⟩, .bool true, .int .i64 0, .string ⟨#[]⟩, .bool false, .int .i64 1, .string ⟨#[]⟩] 23)) := (Below.refl _ _).alloc (Nat.le_refl _) _
  go_enter Try.func11, Try.ntmps11
  go_wp2
  go_ret
  exact ⟨_, rfl, HR.out, hb⟩
set_option maxRecDepth 100000 in
set_option maxHeartbeats 1000000 in
theorem awake14_any (w : World) : Calls Try.prog 14 #[] w (RetB (.bool true) w) := by
  have HO := fun v w (h : RdL w w.heap.size v fourL) => Lib.hid (zof_any 1 v fourL w h)
  have HP := fun v w (h : RdL w w.heap.size v fourL) => Lib.hid (rzof_any 1 v fourL w h)
  have HC := fun w => Lib.hid (zcheck_any ⟨#[]⟩ 1 0 true 3 1 false 1 ⟨#[]⟩ false 3 ⟨#[]⟩ w)
  rw [zof_four] at HO HP
  rw [zchk_four] at HC
  go_enter Try.func14, Try.ntmps14
  go_wp2_with fail
  (with_reducible refine (four_any _).mono ?_); rintro e w1 ⟨v1, rfl, hr1, hb1⟩
  go_wp2_with fail
  (with_reducible refine (HO _ _ hr1).out.mono ?_); rintro e w2 ⟨rfl, hb2⟩
  go_wp2_with fail
  (with_reducible refine (four_any _).mono ?_); rintro e w3 ⟨v3, rfl, hr3, hb3⟩
  go_wp2_with fail
  (with_reducible refine (HP _ _ hr3).out.mono ?_); rintro e w4 ⟨rfl, hb4⟩
  go_wp2_with fail
  (with_reducible refine (HC _).out.mono ?_); rintro e w5 ⟨rfl, hb5⟩
  have hB := bel_trans (bel_trans (bel_trans (bel_trans hb1 hb2) hb3) hb4) hb5
  go_wp2
  go_ret
  exact RetB.mk rfl hB
set_option maxRecDepth 100000 in
set_option maxHeartbeats 4000000 in
theorem zoneExamples_lifted (os : Os) (started : os.Started) (H : Type) (enc : TypeId × Value → H) :
    ReturnsInHanded {} Try.checked os 3 .any (Rows.zoneExamplesSpec.pre6 enc Try.prog Try.f3 Rows.zoneExamplesRow.domain false) (Rows.zoneExamplesSpec.post enc Try.prog Try.f3 false true false false) := by
  refine law_lifted (C := Try.checked) (tb := 4) started Try.own Try.laidOut (by kernel_rfl) Try.func3
    (ChangeSpec.witness6 (enc := enc) (C := Try.checked) false ⟨#[], #[], []⟩ 8 (by kernel_rfl) (by kernel_rfl) (by kernel_rfl) (by kernel_rfl))
    rfl rfl Try.underlying4 (by kernel_rfl) (fun ds h => ?_) (fun W base args ds p hval0 hA0 hsz0 hlt => ?_)
  · have h' : ds.length = Try.f3.params.toList.length := h
    rw [Try.params3] at h'
    match ds, h' with
    | [], _ => rfl
  · have hval : ∀ (j : Nat) t v, Try.f3.params[j]? = some t → args[j]? = some v → Value.okWide Try.prog W .any base t v := hval0
    have hA : DataW.TrodAll enc Try.prog W 0 (fun _ => true) true Try.f3.params.toList args.toList ds p := hA0
    have hsz : (DataW.weightsEach Try.prog Try.f3.params.toList ds).all (· ≤ reachBytes) = true := hsz0
    rw [Try.params3] at hA hval hsz
    clear hA0 hval0 hsz0
    obtain ⟨hargs, rfl, rfl⟩ := trodAll_nil hA
    obtain rfl : args = #[] := by cases args; simp_all
    change Calls Try.prog 3 #[] W (RetB (.bool true) W)
    have HO := fun v w (h : RdL w w.heap.size v fourL) => Lib.hid (zof_any 1 v fourL w h)
    rw [zof_four] at HO
    go_enter Try.func3, Try.ntmps3
    go_wp2_with fail
    (with_reducible refine (four_any _).mono ?_); rintro e w1 ⟨v1, rfl, hr1, hb1⟩
    go_wp2_with fail
    (with_reducible refine (HO _ _ hr1).out.mono ?_); rintro e w2 ⟨rfl, hb2⟩
    go_wp2
    go_ret
    exact RetB.mk rfl (bel_trans hb1 hb2)
theorem zoneExamples_holds : Rows.ZoneExamplesSaid :=
  OpenClaim.holds_of_wide 3 Try.f3 rfl rfl rfl rfl rfl rfl rfl ⟨rfl, rfl, rfl, rfl, rfl⟩ rfl rfl rfl rfl rfl (by kernel_rfl) Try.func3 (by kernel_rfl)
    (of_decide_eq_true (by kernel_rfl)) (by unfold Func.isWrapper; first | (rw [if_pos (by decide +kernel)]; kernel_rfl) | (rw [if_neg (by decide +kernel)]; exact ⟨rfl, rfl⟩))
    (fun os started H enc _ => zoneExamples_lifted os started H enc)
end Go.Proofs.Ythohmngckpjlbaa
