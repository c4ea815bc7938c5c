/- Appending a column to a slice of the call's own; a slice of columns as data. -/
import Derived.Test.YtjbkeipagdmlpaaSchW3
import Derived.Laws.AppendOwnNone
namespace Go.SC
open Go.RowKit Go.VB Go.VL
theorem cells_newC (w : World) (c : Col) (T : TypeId) : ∀ (j : Nat) u, c.cells[j]? = some u → (w.alloc (.cells #[.string c.nm, .int .i64 c.ty, .int .i64 c.sc, .bool c.nu] T)).cell? ⟨w.heap.size, j, none⟩ = some u := by
  intro j u hj
  rw [World.cell?_alloc_new]
  simpa [Col.cells] using hj
theorem cells_oneC (c : Col) : ∀ u ∈ c.cells, u.oneCell' = true := by
  intro u hu
  simp only [Col.cells, List.mem_cons, List.not_mem_nil, or_false] at hu
  rcases hu with rfl | rfl | rfl | rfl <;> rfl
/-- append of one column. -/
theorem wpl_appC {P : Program} {w : World} {ops : Array Oper} {rest : List Oper} {o : Oper} {a : Act} {Q : Exit → Act → World → Prop} (hgd : o.guard = none) (s x : Operand) (t : TypeId)
    (ho : o.op = .call { callee := .builtin .append, args := #[s, x], argTypes := #[t, t] })
    (base : Nat) (e : TypeId) (ht : P.underlying t = some (.slice e)) (hinfo : (P.info? e).map (fun i => (i.zero, i.size, i.bytes)) = some (some col0.val, 4, 40))
    (v : Value) (cs : List Col) (hs : a.eval s = v) (hown : OwnC e w base v cs)
    (g : Nat) (m : Nat) (c : Col) (hx : a.eval x = .slice (some ⟨g, 0, none⟩) 1 m) (hcell : ∀ (j : Nat) u, c.cells[j]? = some u → w.cell? ⟨g, j, none⟩ = some u)
    (hlen : cs.length < 1000000) (hbase : base ≤ w.heap.size)
    (h : ∀ v' w', OwnC e w' base v' (cs ++ [c]) → Below base w w' → wpList P ops Q rest (a.put o.dst v') w') : wpList P ops Q (o :: rest) a w := by
  obtain ⟨i, hi, hz, hsz, hby⟩ := info_parts hinfo
  refine wpList_append_own w hgd s x t ho base e i col0.val 4 40 ht hi hz hsz hby rfl (by decide) v cs.length (colCells cs) hs hown ⟨g, 0, none⟩ 1 m c.cells hx rfl ?_ (cells_oneC c) ?_ ?_ hbase ?_
  · intro j u hj
    have e : ((⟨g, 0, none⟩ : Addr).add j) = ⟨g, j, none⟩ := by
      unfold Addr.add
      by_cases h0 : j = 0
      · subst h0; rfl
      · simp [h0]
    rw [e]; exact hcell j u hj
  · unfold maxLen; omega
  · omega
  · intro v' w' ho' hg _
    refine h v' w' ?_ ?_
    · unfold OwnC
      rw [colCells_app, List.length_append]
      show w'.ownsRow base e 4 v' (cs.length + 1) (colCells cs ++ colCells [c])
      rw [show colCells [c] = c.cells from by unfold colCells; simp]
      exact ho'
    · exact (Below.refl _ _).grown hg hbase (fun k hk => (OwnC.lt hown k hk).1)
end Go.SC
namespace Go.Proofs.Ytjbkeipagdmlpaa
open Go.RowKit Go.VB Go.VL Go.SC
theorem Try.infCol : (Try.prog.info? 66).map (fun i => (i.zero, i.size, i.bytes)) = some (some col0.val, 4, 40) := by kernel_rfl
end Go.Proofs.Ytjbkeipagdmlpaa
