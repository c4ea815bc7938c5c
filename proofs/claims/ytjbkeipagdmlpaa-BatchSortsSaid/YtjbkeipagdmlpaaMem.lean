/- Words for memory: rows of whole numbers that a call owns, slices that can be read, and the laws for making, copying and storing. -/
import Derived.Test.YtjbkeipagdmlpaaBase
import Derived.Laws.AppendOwnNone
import Derived.Lib.SmallJoins
namespace Go.VB
open Go.RowKit

/-- The values of a list of numbers. -/
def nvs (k : IntKind) (l : List Nat) : List Value := l.map fun (n : Nat) => Value.int k (n : Int)
theorem nvs_len (k : IntKind) (l : List Nat) : (nvs k l).length = l.length := List.length_map _
theorem nvs_append (k : IntKind) (a b : List Nat) : nvs k (a ++ b) = nvs k a ++ nvs k b := List.map_append
theorem nvs_set (k : IntKind) (l : List Nat) (i x : Nat) : (nvs k l).set i (.int k (x : Int)) = nvs k (l.set i x) := by
  unfold nvs; rw [List.map_set]
theorem nvs_get (k : IntKind) (l : List Nat) (i : Nat) (h : i < l.length) : (nvs k l)[i]? = some (.int k (l.getD i 0 : Nat)) := by
  unfold nvs; rw [List.getElem?_map, List.getD_eq_getElem?_getD, List.getElem?_eq_getElem h]; rfl
theorem nvs_one (k : IntKind) (l : List Nat) : ∀ u ∈ nvs k l, u.oneCell' = true := by
  intro u hu
  simp only [nvs, List.mem_map] at hu
  obtain ⟨x, _, rfl⟩ := hu
  rfl
theorem nvs_zeros (k : IntKind) (n : Nat) : List.replicate n (Value.int k 0) = nvs k (List.replicate n 0) := by
  unfold nvs; rw [List.map_replicate]; rfl

/-- The slice v is the call's own (its row lies at or above block base, from its head on) and holds the numbers l. -/
def OwnN (k : IntKind) (e : TypeId) (w : World) (base : Nat) (v : Value) (l : List Nat) : Prop := w.ownsRow base e 1 v l.length (nvs k l)
/-- The same at a known block g with capacity c. -/
def RowN (k : IntKind) (e : TypeId) (w : World) (base g c : Nat) (l : List Nat) : Prop := OwnN k e w base (.slice (some ⟨g, 0, none⟩) l.length c) l

section
variable {k : IntKind} {e : TypeId} {w w' : World} {base g c : Nat} {v : Value} {l : List Nat}

theorem OwnN.nil (k : IntKind) (e : TypeId) (w : World) (base : Nat) : OwnN k e w base (.slice none 0 0) [] := World.ownsRow_nil w base e 1
theorem OwnN.forms (h : OwnN k e w base v l) : (v = .slice none 0 0 ∧ l = []) ∨ ∃ g c, v = .slice (some ⟨g, 0, none⟩) l.length c ∧ RowN k e w base g c l := by
  rcases Joins.ownsRow_forms h with ⟨h1, h2⟩ | ⟨g, c, rfl⟩
  · exact .inl ⟨h1, List.eq_nil_of_length_eq_zero h2⟩
  · exact .inr ⟨g, c, rfl, h⟩
theorem OwnN.lower (h : OwnN k e w base v l) {b' : Nat} (hb : b' ≤ base) : OwnN k e w b' v l := Joins.ownsRow_le h hb
theorem OwnN.drew (h : OwnN k e w base v l) : OwnN k e w.drew base v l := h
theorem OwnN.alloc (h : OwnN k e w base v l) (o : Obj) : OwnN k e (w.alloc o) base v l := World.ownsRow.alloc h o
theorem OwnN.lt (h : OwnN k e w base v l) : ∀ b, v.ownBlock = some b → base ≤ b ∧ b < w.heap.size := World.ownsRow.lt h
/-- What a call leaves that turns nothing that was there. -/
theorem OwnN.below (h : OwnN k e w base v l) (hb : Below w.heap.size w w') : OwnN k e w' base v l := by
  refine World.ownsRow.kept (row := none) h ⟨hb.os, hb.tape, hb.output, hb.size, fun b hlt _ => hb.block b hlt⟩ ?_
  rcases hv : v.ownBlock with _ | b
  · exact .inl rfl
  · exact .inr (by simp)
theorem RowN.lt (h : RowN k e w base g c l) : base ≤ g ∧ g < w.heap.size := World.ownsRow.lt h g rfl
theorem RowN.own (h : RowN k e w base g c l) : OwnN k e w base (.slice (some ⟨g, 0, none⟩) l.length c) l := h
theorem RowN.below (h : RowN k e w base g c l) (hb : Below w.heap.size w w') : RowN k e w' base g c l := OwnN.below h hb
theorem RowN.drew (h : RowN k e w base g c l) : RowN k e w.drew base g c l := h
theorem RowN.alloc (h : RowN k e w base g c l) (o : Obj) : RowN k e (w.alloc o) base g c l := OwnN.alloc h o
theorem RowN.lower (h : RowN k e w base g c l) {b' : Nat} (hb : b' ≤ base) : RowN k e w b' g c l := OwnN.lower h hb
theorem RowN.cell (h : RowN k e w base g c l) (j : Nat) (hj : j < l.length) : w.cell? ⟨g, j, none⟩ = some (.int k (l.getD j 0 : Nat)) := by
  rw [World.ownsRow.cellAt h j (by omega), nvs_get k l j hj]
theorem RowN.frozen (h : RowN k e w base g c l) (j : Nat) : w.frozen? ⟨g, j, none⟩ = false := World.ownsRow.frozenAt h j
theorem RowN.store (h : RowN k e w base g c l) (j x : Nat) : RowN k e (w.setCell ⟨g, j, none⟩ (.int k (x : Int))) base g c (l.set j x) := by
  have := (World.ownsRow.stored h j (.int k (x : Int))).1
  unfold RowN OwnN
  rw [List.length_set, ← nvs_set]
  exact this
theorem RowN.made (k : IntKind) (e : TypeId) (w : World) (base n : Nat) (hb : base ≤ w.heap.size) (hm : n ≤ maxLen) :
    RowN k e (w.alloc (.cells (madeCells #[.int k 0] n) e)) base w.heap.size n (List.replicate n 0) := by
  have := World.ownsRow_lit (base := base) (e := e) (size := 1) w (madeCells #[.int k 0] n) n hb hm (by rw [size_madeCells, Nat.mul_one])
  rw [toList_madeCells_one, nvs_zeros] at this
  unfold RowN OwnN
  rw [List.length_replicate]
  exact this

/-- The slice v can be read and holds the numbers l; it lies below block B. -/
def RdN (k : IntKind) (w : World) (B : Nat) (v : Value) (l : List Nat) : Prop :=
  ∃ A c, v = .slice A l.length c ∧ l.length ≤ c ∧ c ≤ maxLen ∧ ∀ i, i < l.length → ∃ ad, A = some ad ∧ ad.block < B ∧ w.cell? (ad.add i) = some (.int k (l.getD i 0 : Nat))
theorem block_add (a : Addr) (n : Nat) : (a.add n).block = a.block := by unfold Addr.add; split <;> rfl
theorem RdN.nil (k : IntKind) (w : World) (B : Nat) : RdN k w B (.slice none 0 0) [] := ⟨none, 0, rfl, Nat.le_refl _, Nat.zero_le _, fun _ hi => absurd hi (Nat.not_lt_zero _)⟩
theorem RdN.more {B B' : Nat} (h : RdN k w B v l) (hB : B ≤ B') : RdN k w B' v l := by
  obtain ⟨A, c, hv, hc, hm, hr⟩ := h
  refine ⟨A, c, hv, hc, hm, fun i hi => ?_⟩
  obtain ⟨ad, h1, h2, h3⟩ := hr i hi
  exact ⟨ad, h1, by omega, h3⟩
theorem RdN.below {B : Nat} (h : RdN k w B v l) (hb : Below B w w') : RdN k w' B v l := by
  obtain ⟨A, c, hv, hc, hm, hr⟩ := h
  refine ⟨A, c, hv, hc, hm, fun i hi => ?_⟩
  obtain ⟨ad, h1, h2, h3⟩ := hr i hi
  exact ⟨ad, h1, h2, by rw [hb.cell (by rw [block_add]; exact h2)]; exact h3⟩
theorem RowN.read (h : RowN k e w base g c l) : RdN k w w.heap.size (.slice (some ⟨g, 0, none⟩) l.length c) l := by
  have hlt := h.lt.2
  have hc : l.length ≤ c ∧ c ≤ maxLen := by
    have h' : w.ownsRow base e 1 (.slice (some ⟨g, 0, none⟩) l.length c) l.length (nvs k l) := h
    rcases h'.2 with ⟨h1, _⟩ | ⟨g', c', cur, h1, _, _, h3, h4, _⟩
    · cases h1
    · cases h1; exact ⟨h3, h4⟩
  refine ⟨_, c, rfl, hc.1, hc.2, fun i hi => ⟨_, rfl, hlt, ?_⟩⟩
  have := h.cell i hi
  unfold Addr.add
  by_cases h0 : i = 0
  · subst h0; simpa using this
  · simpa [h0] using this
theorem OwnN.read (h : OwnN k e w base v l) : RdN k w w.heap.size v l := by
  rcases h.forms with ⟨rfl, rfl⟩ | ⟨g, c, rfl, hr⟩
  · exact RdN.nil _ _ _
  · exact hr.read
end

/-- make([]T, n) of whole numbers. -/
theorem run_makeN {P : Program} {t e : TypeId} {k : IntKind} {bytes : Nat} (ht : P.underlying t = some (.slice e)) (hinfo : (P.info? e).map (fun i => (i.zero, i.size, i.bytes)) = some (some (.int k 0), 1, bytes))
    (n : Nat) (hb : bytes * n ≤ 281474976710656) (hm : n ≤ maxLen) (w : World) :
    (Instr.makeSlice t (.int .i64 (n : Int)) (.int .i64 (n : Int))).run P w = .ok (.slice (some ⟨w.heap.size, 0, none⟩) n n) (w.alloc (.cells (madeCells #[.int k 0] n) e)) := by
  obtain ⟨i, hi, hz, hsz, hby⟩ := info_parts hinfo
  unfold maxLen at hm
  have h := run_make (P := P) w t e i (.int k 0) ht hi hz .i64 .i64 n n (by omega) (Int.le_refl _) (by rw [hby, ← Int.natCast_mul]; omega) (by omega)
  rw [Int.toNat_natCast, hsz, Nat.mul_one] at h
  exact h

/-- append(s, x...) of whole numbers onto a row of the call's own. -/
theorem wpl_appN {P : Program} {w : World} {ops : Array Oper} {rest : List Oper} {o : Oper} {a : Act} {Q : Exit → Act → World → Prop} (hgd : o.guard = none) (s x : Operand) (t : TypeId)
    (ho : o.op = .call { callee := .builtin .append, args := #[s, x], argTypes := #[t, t] })
    (base : Nat) (e : TypeId) (k : IntKind) (bytes : Nat) (ht : P.underlying t = some (.slice e)) (hinfo : (P.info? e).map (fun i => (i.zero, i.size, i.bytes)) = some (some (.int k 0), 1, bytes))
    (v : Value) (l : List Nat) (hs : a.eval s = v) (hown : OwnN k e w base v l) (B : Nat) (vx : Value) (m : List Nat) (hx : a.eval x = vx) (hr : RdN k w B vx m)
    (hlen : l.length + m.length ≤ maxLen) (hbytes : (l.length + m.length) * bytes ≤ 140737488355328) (hbase : base ≤ w.heap.size)
    (h : ∀ v' w', OwnN k e w' base v' (l ++ m) → Below base w w' → w.grownBy w' v.ownBlock → wpList P ops Q rest (a.put o.dst v') w') : wpList P ops Q (o :: rest) a w := by
  obtain ⟨i, hi, hz, hsz, hby⟩ := info_parts hinfo
  have fin : ∀ v' w', w'.ownsRow base e 1 v' (l.length + m.length) (nvs k l ++ nvs k m) → w.grownBy w' v.ownBlock → wpList P ops Q rest (a.put o.dst v') w' := fun v' w' ho' hg => by
    refine h v' w' ?_ ((Below.refl _ _).grown hg hbase (fun b hb => (OwnN.lt hown b hb).1)) hg
    unfold OwnN
    rw [List.length_append, nvs_append]; exact ho'
  obtain ⟨A, c, rfl, hc, hm, hcell⟩ := hr
  rcases A with _ | ad
  · have hm0 : m.length = 0 := by
      rcases Nat.eq_zero_or_pos m.length with h0 | h0
      · exact h0
      · obtain ⟨ad, h1, _⟩ := hcell 0 h0; cases h1
    have hm' : m = [] := List.eq_nil_of_length_eq_zero hm0
    subst hm'
    refine wpList_plain hgd fun K hK => ?_
    have hrun : (Builtin.append_ #[t, t] o.type #[v, .slice none 0 c]).run P w = .ok v w := by
      rcases hown.2 with ⟨rfl, _⟩ | ⟨g, cap, cur, rfl, _, _, hnc, _⟩
      · simp [Builtin.append_, run_underlying ht, sizeOf, typeInfo, hi, Builtin.lenOf, Builtin.firstCells]
      · simp [Builtin.append_, run_underlying ht, sizeOf, typeInfo, hi, Builtin.lenOf, Builtin.firstCells, hnc, storeCells]
    unfold Oper.wp
    simp [execOp, ho, resolve, invoke, builtin, hs, hx, hrun, Result.andThen]
    exact hK _ _ (fin v w (by simpa [nvs, OwnN] using hown) (World.grownBy.refl w _))
  · refine wpList_append_own w hgd s x t ho base e i (.int k 0) 1 bytes ht hi hz hsz hby rfl (by decide) v l.length (nvs k l) hs hown ad m.length c (nvs k m) hx (by rw [nvs_len]; omega) ?_ (nvs_one k m) hlen hbytes hbase ?_
    · intro j u hj
      have hjl : j < m.length := by
        rcases Nat.lt_or_ge j m.length with h1 | h1
        · exact h1
        · rw [List.getElem?_eq_none (by rw [nvs_len]; exact h1)] at hj; cases hj
      rw [nvs_get k m j hjl] at hj
      obtain ⟨ad', h1, _, h3⟩ := hcell j hjl
      cases h1
      rw [h3]; exact hj
    · intro v' w' ho' hg _
      exact fin v' w' ho' hg

/-- It returns a text and a code; what was there is as it was. -/
def RetSE (s : ByteArray) (c : Nat) (w : World) : Ending → World → Prop := RetB (.tuple #[.string s, .int .i64 (c : Int)]) w
/-- It returns a list of numbers of its own and a code; what was there is as it was. -/
def RetNE (k : IntKind) (e : TypeId) (l : List Nat) (c : Nat) (w : World) : Ending → World → Prop := fun en w' =>
  ∃ v, en = .returned (.tuple #[v, .int .i64 (c : Int)]) ∧ OwnN k e w' w.heap.size v l ∧ Below w.heap.size w w'
end Go.VB
