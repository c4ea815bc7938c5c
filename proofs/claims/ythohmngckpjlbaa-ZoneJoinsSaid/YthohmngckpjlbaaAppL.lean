/- append of values as one step of a region that draws. -/
import Derived.Test.YthohmngckpjlbaaVls
import Derived.Deep.RegionLaw
namespace Go.VS
open Go.RowKit Go.VB Go.ChangeShapes Go.WideShapes Go.ChangeAt
/-- append(s, x...) of values onto a row of the call's own, as one step of a region that draws. -/
theorem step_appL {P : Program} {ops : Array Oper} {o : Oper} {a : Act} {w : World} {K : Act → World → Prop} {Q : Exit → Act → World → Prop} {E : Prop}
    (hg : o.guard = none) (s x : Operand) (t : TypeId) (hop : o.op = Op.call { callee := Callee.builtin Builtin.append, args := #[s, x], argTypes := #[t, t] })
    (base : Nat) (e : TypeId) (ht : P.underlying t = some (.slice e)) (hinfo : (P.info? e).map (fun i => (i.zero, i.size, i.bytes)) = some (some vl0.val, 3, 32))
    (v : Value) (l : List Vl) (hs : a.eval s = v) (hown : OwnL e w base v l) (B : Nat) (vx : Value) (m : List Vl) (hx : a.eval x = vx) (hr : RdL w B vx m)
    (hlen : l.length + m.length ≤ 1000000) (hbase : base ≤ w.heap.size)
    (hK : ∀ v' w', OwnL e w' base v' (l ++ m) → Below base w w' → w.grownBy w' v.ownBlock → K (a.put o.dst v') w') :
    if Region.wanted o (yielded ops a.tmps) = true then Oper.wp P o a w K Q else E := by
  have hw : Region.wanted o (yielded ops a.tmps) = true := by simp [Region.wanted, hg]
  rw [if_pos hw]
  obtain ⟨i, hi, hz, hsz, hby⟩ := info_parts hinfo
  obtain ⟨A, c, rfl, hc, hm, hcell⟩ := id hr
  rcases A with _ | ad
  · have hm' : m = [] := by
      cases m with
      | nil => rfl
      | cons y m => obtain ⟨ad, h1, _⟩ := hcell 0 y rfl; cases h1
    subst hm'
    have hrun : (Builtin.append_ #[t, t] o.type #[v, .slice none 0 c]).run P w = .ok v w := by
      rcases hown.2 with ⟨rfl, _⟩ | ⟨g, cap, cur, rfl, _, _, hnc, _⟩
      · simp [Builtin.append_, run_underlying ht, sizeOf, typeInfo, hi, Builtin.lenOf, Builtin.firstCells]
      · simp [Builtin.append_, run_underlying ht, sizeOf, typeInfo, hi, Builtin.lenOf, Builtin.firstCells, hnc, storeCells]
    unfold Oper.wp
    simp [execOp, hop, resolve, invoke, builtin, hs, hx, hrun, Result.andThen]
    refine hK v w ?_ (Below.refl _ _) (World.grownBy.refl w _)
    rw [List.append_nil]; exact hown
  · obtain ⟨v', w', hrun, r1, r2, _⟩ := run_append_own (P := P) w base t o.type e i vl0.val 3 32 ht hi hz hsz hby rfl (by decide) v l.length (vlCells l) hown ad m.length c (vlCells m) (vlCells_len m) hr.cells (vlCells_one m) (by unfold maxLen; omega) (by omega) hbase
    unfold Oper.wp
    simp [execOp, hop, resolve, invoke, builtin, hs, hx, hrun, Result.andThen]
    refine hK v' w' ?_ ((Below.refl _ _).grown r2 hbase (fun b hb => (OwnL.lt hown b hb).1)) r2
    unfold OwnL
    rw [List.length_append, vlCells_app]; exact r1
end Go.VS
