/- Slices of columns of the call's own, at a known block: stores into their elements; append onto nil in a region that draws. -/
import Derived.Test.YtfkdenlpailmeaaDoorSchL
import Derived.Deep.RegionLawGrows
import Derived.Deep.CutRange
namespace Go.SC
open Go.RowKit Go.VB Go.VL
/-- The slice that begins block g is the call's own and holds the columns cs. -/
def RowC (T : TypeId) (w : World) (base g c : Nat) (cs : List Col) : Prop := OwnC T w base (.slice (some ⟨g, 0, none⟩) cs.length c) cs
theorem OwnC.form {T : TypeId} {w : World} {base : Nat} {v : Value} {cs : List Col} (h : OwnC T w base v cs) (h1 : 1 ≤ cs.length) : ∃ g c, v = .slice (some ⟨g, 0, none⟩) cs.length c ∧ RowC T w base g c cs ∧ base ≤ g ∧ g < w.heap.size ∧ cs.length ≤ c ∧ c ≤ maxLen := by
  have hlt := h.lt
  rcases h.2 with ⟨_, hn⟩ | ⟨g, c, cur, rfl, hb, _, h3, h4, _⟩
  · omega
  · exact ⟨g, c, rfl, h, hb, (hlt g rfl).2, h3, h4⟩
theorem addr0 (g n : Nat) : (⟨g, 0, none⟩ : Addr).add n = ⟨g, n, none⟩ := by
  unfold Addr.add
  by_cases h : n = 0
  · rw [if_pos h, h]
  · rw [if_neg h, Nat.zero_add]
theorem RowC.at4 {T : TypeId} {w : World} {base g c : Nat} {cs : List Col} (h : RowC T w base g c cs) {i : Nat} (hi : i < cs.length) : At4 w ⟨g, 0, none⟩ i (cs.getD i col0) := by
  obtain ⟨A, c', hv, _, _, hr⟩ := OwnC.read h
  obtain ⟨ad, h1, _, h3⟩ := hr i hi
  injection hv with a _ _
  rw [← a] at h1
  obtain rfl := Option.some.inj h1
  exact h3
theorem colCells_set : ∀ (cs : List Col) (i k : Nat) (x : Value) (c' : Col), i < cs.length → k < 4 → (cs.getD i col0).cells.set k x = c'.cells → (colCells cs).set (i * 4 + k) x = colCells (cs.set i c')
  | [], _, _, _, _, h, _, _ => absurd h (Nat.not_lt_zero _)
  | c :: r, 0, k, x, c', _, hk, he => by
    show (c.cells ++ colCells r).set (0 * 4 + k) x = c'.cells ++ colCells r
    rw [Nat.zero_mul, Nat.zero_add, List.set_append, if_pos (show k < c.cells.length from hk)]
    rw [show c.cells.set k x = c'.cells from he]
  | c :: r, i + 1, k, x, c', h, hk, he => by
    show (c.cells ++ colCells r).set ((i + 1) * 4 + k) x = c.cells ++ colCells (r.set i c')
    rw [List.set_append, if_neg (show ¬ (i + 1) * 4 + k < c.cells.length from by show ¬ _ < 4; omega), show (i + 1) * 4 + k - c.cells.length = i * 4 + k from by show _ - 4 = _; omega,
      colCells_set r i k x c' (by simpa using h) hk he]
theorem RowC.store {T : TypeId} {w : World} {base g c : Nat} {cs : List Col} (h : RowC T w base g c cs) (i k : Nat) (x : Value) (c' : Col) (hi : i < cs.length) (hk : k < 4) (he : (cs.getD i col0).cells.set k x = c'.cells) :
    RowC T (w.setCell ⟨g, i * 4 + k, none⟩ x) base g c (cs.set i c') := by
  have h2 := (World.ownsRow.stored h (i * 4 + k) x).1
  unfold RowC OwnC
  rw [List.length_set, ← colCells_set cs i k x c' hi hk he]
  exact h2
theorem below_grown {w w' : World} (h : w.grownBy w' none) : Below w.heap.size w w' := ⟨h.os, h.tape, h.output, h.size, fun k hk => h.block k hk (by simp)⟩
theorem RowC.other {T : TypeId} {w : World} {base g c b i : Nat} {cs : List Col} (h : RowC T w base g c cs) (hb : b ≠ g) (x : Value) : RowC T (w.setCell ⟨b, i, none⟩ x) base g c cs :=
  ownsRow_setCell_other h (a := ⟨b, i, none⟩) (fun e => hb (Option.some.inj e).symm) x
theorem RowC.below {T : TypeId} {w w' : World} {base g c : Nat} {cs : List Col} (h : RowC T w base g c cs) (hb : Below w.heap.size w w') : RowC T w' base g c cs := OwnC.below h hb
theorem RowC.alloc {T : TypeId} {w : World} {base g c : Nat} {cs : List Col} (h : RowC T w base g c cs) (o : Obj) : RowC T (w.alloc o) base g c cs := OwnC.alloc h o
theorem RowC.frozenAt {T : TypeId} {w : World} {base g c : Nat} {cs : List Col} (h : RowC T w base g c cs) (n : Nat) : w.frozen? ⟨g, n, none⟩ = false := by
  exact World.ownsRow.frozenAt h n
theorem RowC.nameAt {T : TypeId} {w : World} {base g c : Nat} {cs : List Col} (h : RowC T w base g c cs) {i : Nat} (hi : i < cs.length) : w.cell? ⟨g, i * 4, none⟩ = some (.string (cs.getD i col0).nm) := by
  have := (h.at4 hi).c0
  rw [addr0] at this; exact this
theorem cs_len_eq (cs : List Col) : (colCells cs).length = cs.length * 4 := colCells_len cs
theorem rd_cells {w : World} {B : Nat} {ad : Addr} {c : Nat} {cs : List Col} (h : RdC w B (.slice (some ad) cs.length c) cs) : ∀ (j : Nat) u, (colCells cs)[j]? = some u → w.cell? (ad.add j) = some u := by
  intro j u hj
  have hjl := (List.getElem?_eq_some_iff.1 hj).1
  rw [colCells_len] at hjl
  have hi : j / 4 < cs.length := by omega
  obtain ⟨A, c', hv, _, _, hr⟩ := h
  obtain ⟨ad', h1, _, hat⟩ := hr (j / 4) hi
  injection hv with a _ _
  rw [← a] at h1
  obtain rfl := Option.some.inj h1
  have hd : j / 4 * 4 + j % 4 = j := by omega
  rw [← hd, colCells_get cs (j / 4) (j % 4) hi (by omega)] at hj
  have hm : j % 4 = 0 ∨ j % 4 = 1 ∨ j % 4 = 2 ∨ j % 4 = 3 := by omega
  rw [← hd]
  rcases hm with e | e | e | e
  · rw [e] at hj ⊢
    rw [Nat.add_zero]
    exact hat.c0.trans (by simpa [Col.cells] using hj)
  · rw [e] at hj ⊢
    rw [at_off _ _ _ (by decide)]
    exact hat.c1.trans (by simpa [Col.cells] using hj)
  · rw [e] at hj ⊢
    rw [at_off _ _ _ (by decide)]
    exact hat.c2.trans (by simpa [Col.cells] using hj)
  · rw [e] at hj ⊢
    rw [at_off _ _ _ (by decide)]
    exact hat.c3.trans (by simpa [Col.cells] using hj)
end Go.SC
