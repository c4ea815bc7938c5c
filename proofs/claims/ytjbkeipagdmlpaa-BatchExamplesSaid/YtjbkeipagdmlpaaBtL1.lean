/- BatchExamples. -/
import Derived.Test.YtjbkeipagdmlpaaBt6b
import Derived.Test.YtjbkeipagdmlpaaBtO
namespace Go.Proofs.Ytjbkeipagdmlpaa
open Go.RowKit Go.VB Go.VS Go.SC Go.CK Go.ST Go.MK Go.RS Go.ChangeShapes Go.WideShapes Go.ChangeAt
set_option linter.constructorNameAsVariable false
set_option maxRecDepth 100000 in
set_option maxHeartbeats 4000000 in
theorem batchExamples_lifted (os : Os) (started : os.Started) (H : Type) (enc : TypeId × Value → H) :
    ReturnsInHanded {} Try.checked os 3 .any (Rows.batchExamplesSpec.pre6 enc Try.prog Try.f3 Rows.batchExamplesRow.domain false) (Rows.batchExamplesSpec.post enc Try.prog Try.f3 false true false false) := by
  refine law_lifted (C := Try.checked) (tb := 4) started Try.own Try.laidOut (by kernel_rfl) Try.func3
    (ChangeSpec.witness6 (enc := enc) (C := Try.checked) false ⟨#[], #[], []⟩ 8 (by kernel_rfl) (by kernel_rfl) (by kernel_rfl) (by kernel_rfl))
    rfl rfl Try.underlying4 (by kernel_rfl) (fun ds h => ?_) (fun W base args ds p hval0 hA0 hsz0 hlt => ?_)
  · have h' : ds.length = Try.f3.params.toList.length := h
    rw [Try.params3] at h'
    match ds, h' with
    | [], _ => rfl
  · have hval : ∀ (j : Nat) t v, Try.f3.params[j]? = some t → args[j]? = some v → Value.okWide Try.prog W .any base t v := hval0
    have hA : DataW.TrodAll enc Try.prog W 0 (fun _ => true) true Try.f3.params.toList args.toList ds p := hA0
    have hsz : (DataW.weightsEach Try.prog Try.f3.params.toList ds).all (· ≤ reachBytes) = true := hsz0
    rw [Try.params3] at hA hval hsz
    clear hA0 hval0 hsz0
    obtain ⟨hargs, rfl, rfl⟩ := trodAll_nil hA
    obtain rfl : args = #[] := by cases args; simp_all
    change Calls Try.prog 3 #[] W (RetB (.bool true) W)
    have hmk : (Instr.makeSlice 24 (.int .i64 5) (.int .i64 5)).run Try.prog W = .ok (.slice (some ⟨W.heap.size, 0, none⟩) 5 5) (W.alloc (.cells (madeCells recL.zv.cells (5 * recL.K)) 41)) := run_makeK (P := Try.prog) (L := recL) Try.underlying24 Try.infRec 5 (by decide) (by decide) W
    have hrw := RowK.made recL 41 W W.heap.size 5 (Nat.le_refl _) (by decide)
    have hb0 : Below W.heap.size W (W.alloc (.cells (madeCells recL.zv.cells (5 * recL.K)) 41)) := (Below.refl _ _).alloc (Nat.le_refl _) _
    generalize W.alloc (.cells (madeCells recL.zv.cells (5 * recL.K)) 41) = X at *
    have hdeep : DeepR X X.heap.size (List.replicate 5 recL.z) (List.replicate 5 (⟨0, []⟩ : Rc)) := by
      refine ⟨rfl, fun i p r h1 h2 => ?_⟩
      have e1 := List.eq_of_mem_replicate (List.mem_of_getElem? h1)
      have e2 := List.eq_of_mem_replicate (List.mem_of_getElem? h2)
      subst e1 e2
      exact ⟨rfl, RdL.nil _ _⟩
    have HS := Lib.hid (bsplit_any (.slice (some ⟨W.heap.size, 0, none⟩) 5 5) (List.replicate 5 (⟨0, []⟩ : Rc)) 2 X ⟨_, OwnK.read (RowK.own hrw), hdeep⟩ (by decide) (fun r hr => by rw [List.eq_of_mem_replicate hr]; decide))
    have hp : prtL 2 (List.replicate 5 (⟨0, []⟩ : Rc)) = [List.replicate 2 ⟨0, []⟩, List.replicate 2 ⟨0, []⟩, List.replicate 1 ⟨0, []⟩] := by
      rw [show (2 : Int) = ((2 : Nat) : Int) from rfl, prtL_in (by decide), prt_cons (by decide) (by simp), prt_cons (by decide) (by simp), prt_cons (by decide) (by simp)]
      simp [prt_nil, List.replicate]
    rw [hp] at HS
    clear hp hdeep hrw
    go_enter Try.func3, Try.ntmps3
    go_wp2_with fail
    (with_reducible refine HS.out.mono ?_); rintro e w2 ⟨u, ps, rfl, ho, hd, hb2⟩
    have h3 : ps.length = 3 := hd.1
    rcases ho.forms with ⟨-, h0⟩ | ⟨g, c, rfl, hrow⟩
    · subst h0; simp at h3
    obtain ⟨⟨aA, an, ac⟩, ⟨bA, bn, bc⟩, ⟨dA, dn, dc⟩, rfl⟩ : ∃ a b d, ps = [a, b, d] := by
      match ps, h3 with
      | [a, b, d], _ => exact ⟨a, b, d, rfl⟩
    have k0 := hrow.cell 0 _ rfl
    have k1 := hrow.cell 1 _ rfl
    have k2 := hrow.cell 2 _ rfl
    have n0 : an = 2 := (OwnRs.read (hd.2 0 _ _ rfl rfl)).len.1
    have n1 : bn = 2 := (OwnRs.read (hd.2 1 _ _ rfl rfl)).len.1
    have n2 : dn = 1 := (OwnRs.read (hd.2 2 _ _ rfl rfl)).len.1
    subst n0 n1 n2
    replace k0 : w2.cell? ⟨g, 0, none⟩ = some (.slice aA 2 ac) := k0
    replace k1 : w2.cell? ⟨g, 1, none⟩ = some (.slice bA 2 bc) := k1
    replace k2 : w2.cell? ⟨g, 2, none⟩ = some (.slice dA 1 dc) := k2
    have HB := Lib.hid (hb0.trans (hb2.mono hb0.size))
    clear hd ho hrow h3 hb2 hb0 hmk
    go_wp2
    go_ret
    exact RetB.mk rfl HB.out
theorem batchExamples_holds : Rows.BatchExamplesSaid :=
  OpenClaim.holds_of_wide 3 Try.f3 rfl rfl rfl rfl rfl rfl rfl ⟨rfl, rfl, rfl, rfl, rfl⟩ rfl rfl rfl rfl rfl (by kernel_rfl) Try.func3 (by kernel_rfl)
    (of_decide_eq_true (by kernel_rfl)) (by unfold Func.isWrapper; first | (rw [if_pos (by decide +kernel)]; kernel_rfl) | (rw [if_neg (by decide +kernel)]; exact ⟨rfl, rfl⟩))
    (fun os started H enc _ => batchExamples_lifted os started H enc)
end Go.Proofs.Ytjbkeipagdmlpaa
