/- Columns and values that come in as arguments. -/
import Derived.Test.YtidlemedkjkmdaaDoorValW5
namespace Go.Proofs.YtidlemedkjkmdaaDoor
open Go.RowKit Go.VB Go.VL Go.ChangeShapes Go.WideShapes Go.ChangeAt
theorem Tryd.own : ownKnob Tryd.prog.godebug = none := by kernel_rfl
theorem Tryd.laidOut : laidOutB Tryd.prog = true := by kernel_rfl
theorem Tryd.cellsCol : Tryd.prog.cellsOf 26 = 4 := by kernel_rfl
theorem Tryd.cellsVal : Tryd.prog.cellsOf 28 = 3 := by kernel_rfl
theorem Tryd.cellsI : Tryd.prog.cellsOf 3 = 1 := by kernel_rfl
theorem Tryd.cellsL : Tryd.prog.cellsOf 2 = 1 := by kernel_rfl
theorem Tryd.cellsB : Tryd.prog.cellsOf 4 = 1 := by kernel_rfl
theorem Tryd.cellsS : Tryd.prog.cellsOf 9 = 1 := by kernel_rfl
section
variable {H : Type} {enc : TypeId × Value → H}
theorem open_col {r : Reach} {b0 : Nat} {w : World} {v : Value} {d : DataW H} {ps : List MemPlace} {held : Bool} (hval : Value.okWide Tryd.prog w r b0 26 v)
    (hd : DataW.Trod enc Tryd.prog w 0 (fun _ => true) held 26 v d ps) :
    ∃ nm ty sc nu, v = (.agg #[.string nm, .int .i64 ty, .int .i64 sc, .bool nu]) ∧ (Lit.int .i64 ty).wf = true ∧ (Lit.int .i64 sc).wf = true ∧ nm.size ≤ maxLen := by
  obtain ⟨cs, rfl, hsz⟩ := okWide_struct Tryd.underlying26 hval
  rw [Tryd.cellsCol] at hsz
  obtain ⟨l⟩ := cs
  match l, hsz with
  | [c0, c1, c2, c3], _ =>
  obtain ⟨fuel, hf⟩ := hd
  obtain ⟨xs, n, _, _, _, hlen, hfs⟩ := DataW.trod_struct Tryd.underlying26 hf
  match xs, hlen with
  | [y0, y1, y2, y3], _ =>
  obtain ⟨nm, e0, _, z0⟩ := DataW.trod_string Tryd.underlying9 (hfs 0 _ rfl)
  obtain ⟨ty, e1, _, w1⟩ := DataW.trod_int Tryd.underlying3 (hfs 1 _ rfl)
  obtain ⟨sc, e2, _, w2⟩ := DataW.trod_int Tryd.underlying3 (hfs 2 _ rfl)
  obtain ⟨nu, e3, _⟩ := DataW.trod_bool Tryd.underlying4 (hfs 3 _ rfl)
  simp [Value.cells, Tryd.cellsI, Tryd.cellsB, Tryd.cellsS] at e0 e1 e2 e3
  subst e0 e1 e2 e3
  exact ⟨nm, ty, sc, nu, rfl, w1, w2, z0⟩
theorem open_val {r : Reach} {b0 : Nat} {w : World} {v : Value} {d : DataW H} {ps : List MemPlace} {held : Bool} (hval : Value.okWide Tryd.prog w r b0 28 v)
    (hd : DataW.Trod enc Tryd.prog w 0 (fun _ => true) held 28 v d ps) :
    ∃ nul n s, v = (.agg #[.bool nul, .int .i64 n, .string s]) ∧ (Lit.int .i64 n).wf = true ∧ s.size ≤ maxLen := by
  obtain ⟨cs, rfl, hsz⟩ := okWide_struct Tryd.underlying28 hval
  rw [Tryd.cellsVal] at hsz
  obtain ⟨l⟩ := cs
  match l, hsz with
  | [c0, c1, c2], _ =>
  obtain ⟨fuel, hf⟩ := hd
  obtain ⟨xs, n, _, _, _, hlen, hfs⟩ := DataW.trod_struct Tryd.underlying28 hf
  match xs, hlen with
  | [y0, y1, y2], _ =>
  obtain ⟨nul, e0, _⟩ := DataW.trod_bool Tryd.underlying4 (hfs 0 _ rfl)
  obtain ⟨n, e1, _, w1⟩ := DataW.trod_int Tryd.underlying2 (hfs 1 _ rfl)
  obtain ⟨s, e2, _, z2⟩ := DataW.trod_string Tryd.underlying9 (hfs 2 _ rfl)
  simp [Value.cells, Tryd.cellsL, Tryd.cellsB, Tryd.cellsS] at e0 e1 e2
  subst e0 e1 e2
  exact ⟨nul, n, s, rfl, w1, z2⟩
end

set_option maxRecDepth 100000 in
set_option maxHeartbeats 1000000 in
theorem awake6_any (hput : ∀ w, Calls Tryd.prog 7 #[(.agg #[.bool false, .int .i64 3, .string ⟨#[]⟩])] w (RetB (.string ⟨#[1, 6, 0]⟩) w)) (w : World) : Calls Tryd.prog 11 #[] w (RetB (.bool true) w) := by
  have hc := fun w => cmp_any 1 true 0 ⟨#[]⟩ false 0 ⟨#[]⟩ w
  go_enter Tryd.func11, Tryd.ntmps11
  go_wp2_with fail
  refine (hput _).mono ?_
  rintro e w1 ⟨rfl, b1⟩
  go_wp2_with fail
  refine (hc _).mono ?_
  rintro e w2 ⟨rfl, b2⟩
  go_wp2
  go_ret
  exact RetB.mk rfl (bel_trans b1 b2)
end Go.Proofs.YtidlemedkjkmdaaDoor
