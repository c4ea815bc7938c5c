/- Rows of values of the call's own, at a known block: made, stored into, read. -/
import Derived.Test.YtjbkeipagdmlpaaVls
namespace Go.VS
open Go.RowKit Go.VB
/-- The slice that begins block g is the call's own and holds the values l. -/
def RowL (e : TypeId) (w : World) (base g c : Nat) (l : List Vl) : Prop := OwnL e w base (.slice (some ⟨g, 0, none⟩) l.length c) l
section
variable {w w' : World} {B base c n k g : Nat} {v : Value} {l m : List Vl} {e : TypeId} {x : Vl} {i : Nat}
theorem made3_cells (n : Nat) : (madeCells #[.bool false, .int .i64 0, .string ⟨#[]⟩] (n * 3)).toList = vlCells (List.replicate n vl0) := by
  apply List.ext_getElem?
  intro j
  by_cases hj : j < n * 3
  · have hr : (List.replicate n vl0)[j / 3]? = some vl0 := by rw [List.getElem?_replicate, if_pos (by omega)]
    have := vlCells_get (List.replicate n vl0) (j / 3) (j % 3) vl0 hr (by omega)
    rw [show j / 3 * 3 + j % 3 = j from by omega] at this
    rw [this]
    unfold madeCells
    rw [Array.getElem?_toList, Array.getElem?_map, Array.getElem?_range]
    have h3 : j % 3 = 0 ∨ j % 3 = 1 ∨ j % 3 = 2 := by omega
    rw [if_pos hj]
    rcases h3 with h | h | h <;> simp [h, Vl.cells, vl0]
  · rw [List.getElem?_eq_none (by rw [Array.length_toList, size_madeCells]; omega), List.getElem?_eq_none (by rw [vlCells_len, List.length_replicate]; omega)]
theorem RowL.made (e : TypeId) (w : World) (base n : Nat) (hb : base ≤ w.heap.size) (hm : n ≤ maxLen) :
    RowL e (w.alloc (.cells (madeCells #[.bool false, .int .i64 0, .string ⟨#[]⟩] (n * 3)) e)) base w.heap.size n (List.replicate n vl0) := by
  have := World.ownsRow_lit (base := base) (e := e) (size := 3) w (madeCells #[.bool false, .int .i64 0, .string ⟨#[]⟩] (n * 3)) n hb hm (by rw [size_madeCells])
  rw [made3_cells] at this
  unfold RowL OwnL
  rw [List.length_replicate]
  exact this
theorem OwnL.made0 (e : TypeId) (w : World) (base n : Nat) (hb : base ≤ w.heap.size) (hm : n ≤ maxLen) :
    OwnL e (w.alloc (.cells (madeCells #[.bool false, .int .i64 0, .string ⟨#[]⟩] (n * 3)) e)) base (.slice (some ⟨w.heap.size, 0, none⟩) 0 n) [] :=
  World.ownsRow_made w _ n hb hm (by rw [size_madeCells])
theorem RowL.lt (h : RowL e w base g c l) : base ≤ g ∧ g < w.heap.size := World.ownsRow.lt h g rfl
theorem RowL.own (h : RowL e w base g c l) : OwnL e w base (.slice (some ⟨g, 0, none⟩) l.length c) l := h
theorem RowL.own_at {l' : List Vl} (h : RowL e w base g c l) (hl : l.length = n) (he : l = l') : OwnL e w base (.slice (some ⟨g, 0, none⟩) n c) l' := by
  subst hl; subst he; exact h
theorem RowL.below (h : RowL e w base g c l) (hb : Below w.heap.size w w') : RowL e w' base g c l := OwnL.below h hb
theorem RowL.drew (h : RowL e w base g c l) : RowL e w.drew base g c l := h
theorem RowL.alloc (h : RowL e w base g c l) (o : Obj) : RowL e (w.alloc o) base g c l := OwnL.alloc h o
theorem RowL.other {b i : Nat} (h : RowL e w base g c l) (hb : b ≠ g) (x : Value) : RowL e (w.setCell ⟨b, i, none⟩ x) base g c l :=
  ownsRow_setCell_other h (a := ⟨b, i, none⟩) (fun e => hb (Option.some.inj e).symm) x
theorem RowL.frozen (h : RowL e w base g c l) (j : Nat) : w.frozen? ⟨g, j, none⟩ = false := World.ownsRow.frozenAt h j
theorem addr00 (g n : Nat) : (⟨g, 0, none⟩ : Addr).add n = ⟨g, n, none⟩ := by
  unfold Addr.add
  by_cases h : n = 0
  · rw [if_pos h, h]
  · rw [if_neg h, Nat.zero_add]
theorem RowL.at (h : RowL e w base g c l) (hx : l[i]? = some x) : w.cell? ⟨g, i * 3, none⟩ = some (.bool x.nu) ∧ w.cell? ⟨g, i * 3 + 1, none⟩ = some (.int .i64 x.n) ∧ w.cell? ⟨g, i * 3 + 2, none⟩ = some (.string x.s) := by
  obtain ⟨ad, h1, _, h3⟩ := (OwnL.read h).at hx
  cases h1
  refine ⟨?_, ?_, ?_⟩
  · have := h3.cell (k := 0) rfl; rw [addr00] at this; exact this
  · have := h3.cell (k := 1) rfl; rw [addr00] at this; exact this
  · have := h3.cell (k := 2) rfl; rw [addr00] at this; exact this
theorem vlCells_set : ∀ (l : List Vl) (i k : Nat) (y : Value) (x x' : Vl), l[i]? = some x → k < 3 → x.cells.set k y = x'.cells → (vlCells l).set (i * 3 + k) y = vlCells (l.set i x')
  | [], _, _, _, _, _, h, _, _ => by simp at h
  | z :: r, 0, k, y, x, x', h, hk, he => by
    simp at h; subst h
    show (z.cells ++ vlCells r).set (0 * 3 + k) y = x'.cells ++ vlCells r
    rw [Nat.zero_mul, Nat.zero_add, List.set_append, if_pos (show k < z.cells.length from hk), he]
  | z :: r, i + 1, k, y, x, x', h, hk, he => by
    show (z.cells ++ vlCells r).set ((i + 1) * 3 + k) y = z.cells ++ vlCells (r.set i x')
    rw [List.set_append, if_neg (show ¬ (i + 1) * 3 + k < z.cells.length from by show ¬ _ < 3; omega), show (i + 1) * 3 + k - z.cells.length = i * 3 + k from by show _ - 3 = _; omega,
      vlCells_set r i k y x x' (by simpa using h) hk he]
/-- One cell of a value is stored. -/
theorem RowL.store (h : RowL e w base g c l) (i k : Nat) (y : Value) {x x' : Vl} (hx : l[i]? = some x) (hk : k < 3) (he : x.cells.set k y = x'.cells) : RowL e (w.setCell ⟨g, i * 3 + k, none⟩ y) base g c (l.set i x') := by
  have h2 := (World.ownsRow.stored h (i * 3 + k) y).1
  unfold RowL OwnL
  rw [List.length_set, ← vlCells_set l i k y x x' hx hk he]
  exact h2
/-- A whole value is stored. -/
theorem RowL.put (h : RowL e w base g c l) (i : Nat) (x' : Vl) {x : Vl} (hx : l[i]? = some x) : RowL e (((w.setCell ⟨g, i * 3, none⟩ (.bool x'.nu)).setCell ⟨g, i * 3 + 1, none⟩ (.int .i64 x'.n)).setCell ⟨g, i * 3 + 2, none⟩ (.string x'.s)) base g c (l.set i x') := by
  have hi : i < l.length := (List.getElem?_eq_some_iff.1 hx).1
  have h1 := h.store i 0 (.bool x'.nu) (x' := ⟨x'.nu, x.n, x.s⟩) hx (by decide) rfl
  have h2 := h1.store i 1 (.int .i64 x'.n) (x := ⟨x'.nu, x.n, x.s⟩) (x' := ⟨x'.nu, x'.n, x.s⟩) (by rw [List.getElem?_set_self hi]) (by decide) rfl
  have h3 := h2.store i 2 (.string x'.s) (x := ⟨x'.nu, x'.n, x.s⟩) (x' := x') (by rw [List.set_set, List.getElem?_set_self hi]) (by decide) rfl
  rw [List.set_set, List.set_set] at h3
  exact h3
theorem set3_belowL {w0 : World} (h : Below B w0 w) (hB : B ≤ g) (i : Nat) (x y z : Value) : Below B w0 (((w.setCell ⟨g, i, none⟩ x).setCell ⟨g, i + 1, none⟩ y).setCell ⟨g, i + 2, none⟩ z) :=
  ((h.setCell hB x).setCell hB y).setCell hB z
theorem fill_snoc {α : Type} {b : α} {l t : List α} {n j : Nat} {x : α} (ht : t = l ++ List.replicate (n - j) b) (hl : l.length = j) (hj : j < n) : t.set j x = (l ++ [x]) ++ List.replicate (n - (j + 1)) b := by
  subst ht; subst hl
  rw [List.set_append_right _ _ (Nat.le_refl _), Nat.sub_self]
  obtain ⟨d, hd⟩ : ∃ d, n - l.length = d + 1 := ⟨n - l.length - 1, by omega⟩
  rw [hd, show n - (l.length + 1) = d from by omega, List.replicate_succ, List.set_cons_zero, List.append_assoc]; rfl
theorem fill_at {α : Type} {b : α} {l t : List α} {n j : Nat} (ht : t = l ++ List.replicate (n - j) b) (hl : l.length = j) (hj : j < n) : t[j]? = some b := by
  subst ht; subst hl
  rw [List.getElem?_append_right (Nat.le_refl _), Nat.sub_self, List.getElem?_replicate, if_pos (by omega)]
end
/-- make([]api.Value, n) and make([]api.Value, 0, n). -/
theorem run_make3 {P : Program} {t e : TypeId} {bytes : Nat} (ht : P.underlying t = some (.slice e)) (hinfo : (P.info? e).map (fun i => (i.zero, i.size, i.bytes)) = some (some vl0.val, 3, bytes))
    (n : Nat) (hb : bytes * n ≤ 281474976710656) (hm : n ≤ maxLen) (w : World) :
    (Instr.makeSlice t (.int .i64 (n : Int)) (.int .i64 (n : Int))).run P w = .ok (.slice (some ⟨w.heap.size, 0, none⟩) n n) (w.alloc (.cells (madeCells #[.bool false, .int .i64 0, .string ⟨#[]⟩] (n * 3)) e)) := by
  obtain ⟨i, hi, hz, hsz, hby⟩ := info_parts hinfo
  unfold maxLen at hm
  have h := run_make (P := P) w t e i vl0.val ht hi hz .i64 .i64 n n (by omega) (Int.le_refl _) (by rw [hby, ← Int.natCast_mul]; omega) (by omega)
  rw [Int.toNat_natCast, hsz] at h
  exact h
theorem run_make30 {P : Program} {t e : TypeId} {bytes : Nat} (ht : P.underlying t = some (.slice e)) (hinfo : (P.info? e).map (fun i => (i.zero, i.size, i.bytes)) = some (some vl0.val, 3, bytes))
    (n : Nat) (hb : bytes * n ≤ 281474976710656) (hm : n ≤ maxLen) (w : World) :
    (Instr.makeSlice t (.int .i64 0) (.int .i64 (n : Int))).run P w = .ok (.slice (some ⟨w.heap.size, 0, none⟩) 0 n) (w.alloc (.cells (madeCells #[.bool false, .int .i64 0, .string ⟨#[]⟩] (n * 3)) e)) := by
  obtain ⟨i, hi, hz, hsz, hby⟩ := info_parts hinfo
  unfold maxLen at hm
  have h := run_make (P := P) w t e i vl0.val ht hi hz .i64 .i64 0 n (by omega) (by omega) (by rw [hby, ← Int.natCast_mul]; omega) (by omega)
  rw [Int.toNat_natCast, hsz] at h
  exact h
end Go.VS
