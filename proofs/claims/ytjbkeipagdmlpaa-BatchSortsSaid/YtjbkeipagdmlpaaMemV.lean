/- Words for memory over any type of elements of one cell each: f tells an element's value. Rows that a call owns, slices that can be read, the laws for making, appending and storing; slices of truth values that come in. -/
import Derived.Test.YtjbkeipagdmlpaaKit
import Derived.Deep.Grids
namespace Go.VB
open Go.RowKit Go.ChangeShapes Go.WideShapes Go.ChangeAt

section
variable {α : Type}
/-- The slice v is the call's own (its row lies at or above block base, from its head on) and holds the elements l. -/
def OwnV (f : α → Value) (e : TypeId) (w : World) (base : Nat) (v : Value) (l : List α) : Prop := w.ownsRow base e 1 v l.length (l.map f)
/-- The same at a known block g with capacity c. -/
def RowV (f : α → Value) (e : TypeId) (w : World) (base g c : Nat) (l : List α) : Prop := OwnV f e w base (.slice (some ⟨g, 0, none⟩) l.length c) l
/-- The slice v can be read and holds the elements l; it lies below block B. -/
def RdV (f : α → Value) (w : World) (B : Nat) (v : Value) (l : List α) : Prop :=
  ∃ A c, v = .slice A l.length c ∧ l.length ≤ c ∧ c ≤ maxLen ∧ ∀ i x, l[i]? = some x → ∃ ad, A = some ad ∧ ad.block < B ∧ w.cell? (ad.add i) = some (f x)

variable {f : α → Value} {e : TypeId} {w w' : World} {base g c : Nat} {v : Value} {l : List α}

theorem OwnV.nil (f : α → Value) (e : TypeId) (w : World) (base : Nat) : OwnV f e w base (.slice none 0 0) [] := World.ownsRow_nil w base e 1
theorem OwnV.forms (h : OwnV f e w base v l) : (v = .slice none 0 0 ∧ l = []) ∨ ∃ g c, v = .slice (some ⟨g, 0, none⟩) l.length c ∧ RowV f e w base g c l := by
  rcases Joins.ownsRow_forms h with ⟨h1, h2⟩ | ⟨g, c, rfl⟩
  · exact .inl ⟨h1, List.eq_nil_of_length_eq_zero h2⟩
  · exact .inr ⟨g, c, rfl, h⟩
theorem OwnV.lower (h : OwnV f e w base v l) {b' : Nat} (hb : b' ≤ base) : OwnV f e w b' v l := Joins.ownsRow_le h hb
theorem OwnV.drew (h : OwnV f e w base v l) : OwnV f e w.drew base v l := h
theorem OwnV.alloc (h : OwnV f e w base v l) (o : Obj) : OwnV f e (w.alloc o) base v l := World.ownsRow.alloc h o
theorem OwnV.lt (h : OwnV f e w base v l) : ∀ b, v.ownBlock = some b → base ≤ b ∧ b < w.heap.size := World.ownsRow.lt h
/-- What a call leaves that turns nothing that was there. -/
theorem OwnV.below (h : OwnV f e w base v l) (hb : Below w.heap.size w w') : OwnV f e w' base v l := by
  refine World.ownsRow.kept (row := none) h ⟨hb.os, hb.tape, hb.output, hb.size, fun b hlt _ => hb.block b hlt⟩ ?_
  rcases hv : v.ownBlock with _ | b
  · exact .inl rfl
  · exact .inr (by simp)
theorem RowV.lt (h : RowV f e w base g c l) : base ≤ g ∧ g < w.heap.size := World.ownsRow.lt h g rfl
theorem RowV.own (h : RowV f e w base g c l) : OwnV f e w base (.slice (some ⟨g, 0, none⟩) l.length c) l := h
theorem RowV.own_at {n : Nat} {l' : List α} (h : RowV f e w base g c l) (hl : l.length = n) (he : l = l') : OwnV f e w base (.slice (some ⟨g, 0, none⟩) n c) l' := by
  subst hl; subst he; exact h
theorem RowV.below (h : RowV f e w base g c l) (hb : Below w.heap.size w w') : RowV f e w' base g c l := OwnV.below h hb
theorem RowV.drew (h : RowV f e w base g c l) : RowV f e w.drew base g c l := h
theorem RowV.alloc (h : RowV f e w base g c l) (o : Obj) : RowV f e (w.alloc o) base g c l := OwnV.alloc h o
theorem RowV.cell (h : RowV f e w base g c l) (j : Nat) (x : α) (hj : l[j]? = some x) : w.cell? ⟨g, j, none⟩ = some (f x) := by
  have hl : j < l.length := (List.getElem?_eq_some_iff.1 hj).1
  rw [World.ownsRow.cellAt h j (by omega), List.getElem?_map, hj]; rfl
theorem RowV.frozen (h : RowV f e w base g c l) (j : Nat) : w.frozen? ⟨g, j, none⟩ = false := World.ownsRow.frozenAt h j
theorem RowV.store (h : RowV f e w base g c l) (j : Nat) (x : α) : RowV f e (w.setCell ⟨g, j, none⟩ (f x)) base g c (l.set j x) := by
  have := (World.ownsRow.stored h j (f x)).1
  unfold RowV OwnV
  rw [List.length_set, List.map_set]
  exact this
theorem RowV.made (f : α → Value) (z : α) (e : TypeId) (w : World) (base n : Nat) (hb : base ≤ w.heap.size) (hm : n ≤ maxLen) :
    RowV f e (w.alloc (.cells (madeCells #[f z] n) e)) base w.heap.size n (List.replicate n z) := by
  have := World.ownsRow_lit (base := base) (e := e) (size := 1) w (madeCells #[f z] n) n hb hm (by rw [size_madeCells, Nat.mul_one])
  rw [toList_madeCells_one] at this
  unfold RowV OwnV
  rw [List.length_replicate, List.map_replicate]
  exact this

theorem RdV.nil (f : α → Value) (w : World) (B : Nat) : RdV f w B (.slice none 0 0) [] := ⟨none, 0, rfl, Nat.le_refl _, Nat.zero_le _, fun i x hx => by simp at hx⟩
theorem RdV.more {B B' : Nat} (h : RdV f w B v l) (hB : B ≤ B') : RdV f w B' v l := by
  obtain ⟨A, c, hv, hc, hm, hr⟩ := h
  refine ⟨A, c, hv, hc, hm, fun i x hi => ?_⟩
  obtain ⟨ad, h1, h2, h3⟩ := hr i x hi
  exact ⟨ad, h1, by omega, h3⟩
theorem RdV.below {B : Nat} (h : RdV f w B v l) (hb : Below B w w') : RdV f w' B v l := by
  obtain ⟨A, c, hv, hc, hm, hr⟩ := h
  refine ⟨A, c, hv, hc, hm, fun i x hi => ?_⟩
  obtain ⟨ad, h1, h2, h3⟩ := hr i x hi
  exact ⟨ad, h1, h2, by rw [hb.cell (by rw [block_add]; exact h2)]; exact h3⟩
theorem RdV.step (h : RdV f w w.heap.size v l) (hb : Below w.heap.size w w') : RdV f w' w'.heap.size v l := (h.below hb).more hb.size
theorem RdV.head {B : Nat} {A : Option Addr} {k : Nat} {m : List α} (h : RdV f w B (.slice A k c) l) (hm : m = l.take m.length) (hml : m.length ≤ l.length) : RdV f w B (.slice A m.length c) m := by
  obtain ⟨A', c', hv, hc, hx, hr⟩ := h
  cases hv
  refine ⟨A, c, rfl, by omega, hx, fun i x hi => hr i x ?_⟩
  have hl : i < m.length := (List.getElem?_eq_some_iff.1 hi).1
  rw [hm, List.getElem?_take, if_pos hl] at hi
  exact hi
theorem RowV.read (h : RowV f e w base g c l) : RdV f w w.heap.size (.slice (some ⟨g, 0, none⟩) l.length c) l := by
  have hlt := h.lt.2
  have hc : l.length ≤ c ∧ c ≤ maxLen := by
    have h' : w.ownsRow base e 1 (.slice (some ⟨g, 0, none⟩) l.length c) l.length (l.map f) := h
    rcases h'.2 with ⟨h1, _⟩ | ⟨g', c', cur, h1, _, _, h3, h4, _⟩
    · cases h1
    · cases h1; exact ⟨h3, h4⟩
  refine ⟨_, c, rfl, hc.1, hc.2, fun i x hi => ⟨_, rfl, hlt, ?_⟩⟩
  have := h.cell i x hi
  unfold Addr.add
  by_cases h0 : i = 0
  · subst h0; simpa using this
  · simpa [h0] using this
theorem OwnV.read (h : OwnV f e w base v l) : RdV f w w.heap.size v l := by
  rcases h.forms with ⟨rfl, rfl⟩ | ⟨g, c, rfl, hr⟩
  · exact RdV.nil _ _ _
  · exact hr.read
/-- A row that was just laid out. -/
theorem RdV.lit (f : α → Value) (w : World) (l : List α) (m : Nat) (e : TypeId) (hm : l.length ≤ m) (hm2 : m ≤ maxLen) : RdV f (w.alloc (.cells (l.map f).toArray e)) (w.heap.size + 1) (.slice (some ⟨w.heap.size, 0, none⟩) l.length m) l :=
  ⟨_, m, rfl, hm, hm2, fun i x hi => ⟨_, rfl, Nat.lt_succ_self _, by
    have e : ((⟨w.heap.size, 0, none⟩ : Addr).add i) = ⟨w.heap.size, i, none⟩ := by
      unfold Addr.add
      by_cases h0 : i = 0
      · subst h0; rfl
      · simp [h0]
    rw [e, World.cell?_alloc_new]
    simp [hi]⟩⟩
theorem RdV.one (f : α → Value) (w : World) (x : α) (m : Nat) (e : TypeId) (hm : 1 ≤ m) (hm2 : m ≤ maxLen) : RdV f (w.alloc (.cells #[f x] e)) (w.heap.size + 1) (.slice (some ⟨w.heap.size, 0, none⟩) 1 m) [x] := RdV.lit f w [x] m e hm hm2

/-- make([]T, n). -/
theorem run_makeV {P : Program} {t e : TypeId} {bytes : Nat} {z : Value} (hz1 : z.cells = #[z]) (ht : P.underlying t = some (.slice e)) (hinfo : (P.info? e).map (fun i => (i.zero, i.size, i.bytes)) = some (some z, 1, bytes))
    (n : Nat) (hb : bytes * n ≤ 281474976710656) (hm : n ≤ maxLen) (w : World) :
    (Instr.makeSlice t (.int .i64 (n : Int)) (.int .i64 (n : Int))).run P w = .ok (.slice (some ⟨w.heap.size, 0, none⟩) n n) (w.alloc (.cells (madeCells #[z] n) e)) := by
  obtain ⟨i, hi, hz, hsz, hby⟩ := info_parts hinfo
  unfold maxLen at hm
  have h := run_make (P := P) w t e i z ht hi hz .i64 .i64 n n (by omega) (Int.le_refl _) (by rw [hby, ← Int.natCast_mul]; omega) (by omega)
  rw [Int.toNat_natCast, hsz, Nat.mul_one, hz1] at h
  exact h

/-- append(s, x...) onto a row of the call's own. -/
theorem wpl_appV {P : Program} {ops : Array Oper} {rest : List Oper} {o : Oper} {a : Act} {Q : Exit → Act → World → Prop} (hone : ∀ x : α, (f x).oneCell' = true) (z : Value) (hz1 : z.cells.size = 1) (hgd : o.guard = none) (s x : Operand) (t : TypeId)
    (ho : o.op = .call { callee := .builtin .append, args := #[s, x], argTypes := #[t, t] })
    (base : Nat) (e : TypeId) (bytes : Nat) (ht : P.underlying t = some (.slice e)) (hinfo : (P.info? e).map (fun i => (i.zero, i.size, i.bytes)) = some (some z, 1, bytes))
    (v : Value) (l : List α) (hs : a.eval s = v) (hown : OwnV f e w base v l) (B : Nat) (vx : Value) (m : List α) (hx : a.eval x = vx) (hr : RdV f w B vx m)
    (hlen : l.length + m.length ≤ maxLen) (hbytes : (l.length + m.length) * bytes ≤ 140737488355328) (hbase : base ≤ w.heap.size)
    (h : ∀ v' w', OwnV f e w' base v' (l ++ m) → Below base w w' → w.grownBy w' v.ownBlock → wpList P ops Q rest (a.put o.dst v') w') : wpList P ops Q (o :: rest) a w := by
  obtain ⟨i, hi, hz, hsz, hby⟩ := info_parts hinfo
  have fin : ∀ v' w', w'.ownsRow base e 1 v' (l.length + m.length) (l.map f ++ m.map f) → w.grownBy w' v.ownBlock → wpList P ops Q rest (a.put o.dst v') w' := fun v' w' ho' hg => by
    refine h v' w' ?_ ((Below.refl _ _).grown hg hbase (fun b hb => (OwnV.lt hown b hb).1)) hg
    unfold OwnV
    rw [List.length_append, List.map_append]; exact ho'
  obtain ⟨A, c, rfl, hc, hm, hcell⟩ := hr
  rcases A with _ | ad
  · have hm' : m = [] := by
      cases m with
      | nil => rfl
      | cons y m => obtain ⟨ad, h1, _⟩ := hcell 0 y rfl; cases h1
    subst hm'
    refine wpList_plain hgd fun K hK => ?_
    have hrun : (Builtin.append_ #[t, t] o.type #[v, .slice none 0 c]).run P w = .ok v w := by
      rcases hown.2 with ⟨rfl, _⟩ | ⟨g, cap, cur, rfl, _, _, hnc, _⟩
      · simp [Builtin.append_, run_underlying ht, sizeOf, typeInfo, hi, Builtin.lenOf, Builtin.firstCells]
      · simp [Builtin.append_, run_underlying ht, sizeOf, typeInfo, hi, Builtin.lenOf, Builtin.firstCells, hnc, storeCells]
    unfold Oper.wp
    simp [execOp, ho, resolve, invoke, builtin, hs, hx, hrun, Result.andThen]
    exact hK _ _ (fin v w (by simpa [OwnV] using hown) (World.grownBy.refl w _))
  · refine wpList_append_own w hgd s x t ho base e i z 1 bytes ht hi hz hsz hby hz1 (by decide) v l.length (l.map f) hs hown ad m.length c (m.map f) hx (by rw [List.length_map]; omega) ?_ ?_ hlen hbytes hbase ?_
    · intro j u hj
      rw [List.getElem?_map] at hj
      cases hmj : m[j]? with
      | none => rw [hmj] at hj; simp at hj
      | some y =>
        rw [hmj] at hj
        simp only [Option.map_some, Option.some.injEq] at hj
        obtain ⟨ad', h1, _, h3⟩ := hcell j y hmj
        cases h1
        rw [h3, hj]
    · intro u hu
      simp only [List.mem_map] at hu
      obtain ⟨y, _, rfl⟩ := hu
      exact hone y
    · intro v' w' ho' hg _
      exact fin v' w' ho' hg

/-- It returns a list of its own; what was there is as it was. -/
def RetV (f : α → Value) (e : TypeId) (l : List α) (w : World) : Ending → World → Prop := fun en w' =>
  ∃ v, en = .returned v ∧ OwnV f e w' w.heap.size v l ∧ Below w.heap.size w w'
theorem RetV.mk {x : Value} (hx : x = v) (ho : OwnV f e w' w.heap.size v l) (hb : Below w.heap.size w w') : RetV f e l w (.returned x) w' := ⟨v, by rw [hx], ho, hb⟩
/-- It returns a list of its own and a code; what was there is as it was. -/
def RetVE (f : α → Value) (e : TypeId) (l : List α) (c : Nat) (w : World) : Ending → World → Prop := fun en w' =>
  ∃ v, en = .returned (.tuple #[v, .int .i64 (c : Int)]) ∧ OwnV f e w' w.heap.size v l ∧ Below w.heap.size w w'
theorem RetVE.mk {k : Nat} {x : Value} (hx : x = .tuple #[v, .int .i64 (k : Int)]) (ho : OwnV f e w' w.heap.size v l) (hb : Below w.heap.size w w') : RetVE f e l k w (.returned x) w' := ⟨v, by rw [hx], ho, hb⟩
end

section
variable {H : Type} {enc : TypeId × Value → H} {P : Program}
/-- A slice of truth values that comes in. -/
theorem open_rdB {r : Reach} {b0 : Nat} {t e : TypeId} {w : World} {v : Value} {d : DataW H} {ps : List MemPlace} {held : Bool} (ht : P.underlying t = some (.slice e)) (he : P.underlying e = some .bool) (hc : P.cellsOf e = 1)
    (hval : Value.okWide P w r b0 t v) (hd : DataW.Trod enc P w 0 (fun _ => true) held t v d ps) {ts : List TypeId} {ds : List (DataW H)} (hsz : (DataW.weightsEach P ts ds).all (· ≤ reachBytes) = true) {j : Nat} (hj : ts[j]? = some t) (hdj : ds[j]? = some d) :
    ∃ bs : List Bool, RdV Value.bool w w.heap.size v bs ∧ bs.length * P.bytesOf e ≤ 140737488351232 := by
  obtain ⟨A, l, c, rfl⟩ := okWide_slice ht hval
  obtain ⟨fuel, hf⟩ := hd
  rcases Deep.open_bools ht he hc hf with ⟨hcs, hx⟩ | ⟨a, len, cap, Z, hcs, _, hl, hm, hx, hcell⟩
  · simp only [Value.cells, List.cons.injEq, Value.slice.injEq, and_true] at hcs
    obtain ⟨rfl, rfl, rfl⟩ := hcs
    exact ⟨[], RdV.nil _ _ _, by simp⟩
  · simp only [Value.cells, List.cons.injEq, Value.slice.injEq, and_true] at hcs
    obtain ⟨rfl, rfl, rfl⟩ := hcs
    refine ⟨(List.range l).map Z, ⟨some a, c, by simp, by simpa using hl, hm, fun i x hi => ?_⟩, ?_⟩
    · have hil : i < l := by
        have := (List.getElem?_eq_some_iff.1 hi).1
        simpa using this
      rw [List.getElem?_map, List.getElem?_range hil] at hi
      simp only [Option.map_some, Option.some.injEq] at hi
      subst hi
      have hci := hcell i (by omega)
      have hb := World.block_lt_of_cell? w _ hci
      rw [block_add] at hb
      exact ⟨a, rfl, hb, hci⟩
    · obtain ⟨rfl, _⟩ : d = _ ∧ ps = _ := by simpa using hx
      have h := sized_slice hsz hj hdj ht
      rw [List.length_map, List.length_range]
      refine Nat.le_trans (Nat.mul_le_mul_right _ ?_) (Nat.le_trans h (show reachBytes ≤ 140737488351232 by decide))
      simp
end
end Go.VB
