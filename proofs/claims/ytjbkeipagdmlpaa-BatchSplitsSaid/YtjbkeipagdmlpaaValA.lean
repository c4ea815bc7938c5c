/- Columns and values that come in as arguments. -/
import Derived.Test.YtjbkeipagdmlpaaValW5
set_option maxRecDepth 100000
set_option linter.constructorNameAsVariable false
namespace Go.Proofs.Ytjbkeipagdmlpaa
open Go.RowKit Go.VB Go.VL Go.ChangeShapes Go.WideShapes Go.ChangeAt
theorem Try.own : ownKnob Try.prog.godebug = none := by kernel_rfl
theorem Try.laidOut : laidOutB Try.prog = true := by kernel_rfl
theorem Try.cellsCol : Try.prog.cellsOf 66 = 4 := by kernel_rfl
theorem Try.cellsVal : Try.prog.cellsOf 32 = 3 := by kernel_rfl
theorem Try.cellsI : Try.prog.cellsOf 3 = 1 := by kernel_rfl
theorem Try.cellsL : Try.prog.cellsOf 2 = 1 := by kernel_rfl
theorem Try.cellsB : Try.prog.cellsOf 4 = 1 := by kernel_rfl
theorem Try.cellsS : Try.prog.cellsOf 9 = 1 := by kernel_rfl
section
variable {H : Type} {enc : TypeId × Value → H}
theorem open_col {r : Reach} {b0 : Nat} {w : World} {v : Value} {d : DataW H} {ps : List MemPlace} {held : Bool} (hval : Value.okWide Try.prog w r b0 66 v)
    (hd : DataW.Trod enc Try.prog w 0 (fun _ => true) held 66 v d ps) :
    ∃ nm ty sc nu, v = (.agg #[.string nm, .int .i64 ty, .int .i64 sc, .bool nu]) ∧ (Lit.int .i64 ty).wf = true ∧ (Lit.int .i64 sc).wf = true ∧ nm.size ≤ maxLen := by
  obtain ⟨cs, rfl, hsz⟩ := okWide_struct Try.underlying66 hval
  rw [Try.cellsCol] at hsz
  obtain ⟨l⟩ := cs
  match l, hsz with
  | [c0, c1, c2, c3], _ =>
  obtain ⟨fuel, hf⟩ := hd
  obtain ⟨xs, n, _, _, _, hlen, hfs⟩ := DataW.trod_struct Try.underlying66 hf
  match xs, hlen with
  | [y0, y1, y2, y3], _ =>
  obtain ⟨nm, e0, _, z0⟩ := DataW.trod_string Try.underlying9 (hfs 0 _ rfl)
  obtain ⟨ty, e1, _, w1⟩ := DataW.trod_int Try.underlying3 (hfs 1 _ rfl)
  obtain ⟨sc, e2, _, w2⟩ := DataW.trod_int Try.underlying3 (hfs 2 _ rfl)
  obtain ⟨nu, e3, _⟩ := DataW.trod_bool Try.underlying4 (hfs 3 _ rfl)
  simp [Value.cells, Try.cellsI, Try.cellsB, Try.cellsS] at e0 e1 e2 e3
  subst e0 e1 e2 e3
  exact ⟨nm, ty, sc, nu, rfl, w1, w2, z0⟩
theorem open_val {r : Reach} {b0 : Nat} {w : World} {v : Value} {d : DataW H} {ps : List MemPlace} {held : Bool} (hval : Value.okWide Try.prog w r b0 32 v)
    (hd : DataW.Trod enc Try.prog w 0 (fun _ => true) held 32 v d ps) :
    ∃ nul n s, v = (.agg #[.bool nul, .int .i64 n, .string s]) ∧ (Lit.int .i64 n).wf = true ∧ s.size ≤ maxLen := by
  obtain ⟨cs, rfl, hsz⟩ := okWide_struct Try.underlying32 hval
  rw [Try.cellsVal] at hsz
  obtain ⟨l⟩ := cs
  match l, hsz with
  | [c0, c1, c2], _ =>
  obtain ⟨fuel, hf⟩ := hd
  obtain ⟨xs, n, _, _, _, hlen, hfs⟩ := DataW.trod_struct Try.underlying32 hf
  match xs, hlen with
  | [y0, y1, y2], _ =>
  obtain ⟨nul, e0, _⟩ := DataW.trod_bool Try.underlying4 (hfs 0 _ rfl)
  obtain ⟨n, e1, _, w1⟩ := DataW.trod_int Try.underlying2 (hfs 1 _ rfl)
  obtain ⟨s, e2, _, z2⟩ := DataW.trod_string Try.underlying9 (hfs 2 _ rfl)
  simp [Value.cells, Try.cellsL, Try.cellsB, Try.cellsS] at e0 e1 e2
  subst e0 e1 e2
  exact ⟨nul, n, s, rfl, w1, z2⟩
end

end Go.Proofs.Ytjbkeipagdmlpaa
