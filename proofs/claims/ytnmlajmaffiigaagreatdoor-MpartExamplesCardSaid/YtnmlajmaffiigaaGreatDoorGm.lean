/- Words for memory over any type of elements of one cell each: f tells an element's value. Rows that a call owns, slices that can be read, the laws for making, appending and storing; slices of truth values that come in. -/
import Derived.Test.YtnmlajmaffiigaaGreatDoorGa
import Derived.Deep.Grids
import Derived.Deep.Slices
import Derived.Deep.RegionLaw
namespace Go.VB
open Go.RowKit Go.ChangeShapes Go.WideShapes Go.ChangeAt

section
variable {α : Type}
/-- The slice v is the call's own (its row lies at or above block base, from its head on) and holds the elements l. -/
def OwnV (f : α → Value) (e : TypeId) (w : World) (base : Nat) (v : Value) (l : List α) : Prop := w.ownsRow base e 1 v l.length (l.map f)
/-- The same at a known block g with capacity c. -/
def RowV (f : α → Value) (e : TypeId) (w : World) (base g c : Nat) (l : List α) : Prop := OwnV f e w base (.slice (some ⟨g, 0, none⟩) l.length c) l
/-- The slice v can be read and holds the elements l; it lies below block B. -/
def RdV (f : α → Value) (w : World) (B : Nat) (v : Value) (l : List α) : Prop :=
  ∃ A c, v = .slice A l.length c ∧ l.length ≤ c ∧ c ≤ maxLen ∧ ∀ i x, l[i]? = some x → ∃ ad, A = some ad ∧ ad.block < B ∧ w.cell? (ad.add i) = some (f x)

variable {f : α → Value} {e : TypeId} {w w' : World} {base g c : Nat} {v : Value} {l : List α}

theorem OwnV.nil (f : α → Value) (e : TypeId) (w : World) (base : Nat) : OwnV f e w base (.slice none 0 0) [] := World.ownsRow_nil w base e 1
theorem OwnV.forms (h : OwnV f e w base v l) : (v = .slice none 0 0 ∧ l = []) ∨ ∃ g c, v = .slice (some ⟨g, 0, none⟩) l.length c ∧ RowV f e w base g c l := by
  rcases Joins.ownsRow_forms h with ⟨h1, h2⟩ | ⟨g, c, rfl⟩
  · exact .inl ⟨h1, List.eq_nil_of_length_eq_zero h2⟩
  · exact .inr ⟨g, c, rfl, h⟩
theorem OwnV.lower (h : OwnV f e w base v l) {b' : Nat} (hb : b' ≤ base) : OwnV f e w b' v l := Joins.ownsRow_le h hb
theorem OwnV.drew (h : OwnV f e w base v l) : OwnV f e w.drew base v l := h
theorem OwnV.alloc (h : OwnV f e w base v l) (o : Obj) : OwnV f e (w.alloc o) base v l := World.ownsRow.alloc h o
theorem OwnV.lt (h : OwnV f e w base v l) : ∀ b, v.ownBlock = some b → base ≤ b ∧ b < w.heap.size := World.ownsRow.lt h
/-- What a call leaves that turns nothing that was there. -/
theorem OwnV.below (h : OwnV f e w base v l) (hb : Below w.heap.size w w') : OwnV f e w' base v l := by
  refine World.ownsRow.kept (row := none) h ⟨hb.os, hb.tape, hb.output, hb.size, fun b hlt _ => hb.block b hlt⟩ ?_
  rcases hv : v.ownBlock with _ | b
  · exact .inl rfl
  · exact .inr (by simp)
theorem RowV.lt (h : RowV f e w base g c l) : base ≤ g ∧ g < w.heap.size := World.ownsRow.lt h g rfl
theorem RowV.own (h : RowV f e w base g c l) : OwnV f e w base (.slice (some ⟨g, 0, none⟩) l.length c) l := h
theorem RowV.own_at {n : Nat} {l' : List α} (h : RowV f e w base g c l) (hl : l.length = n) (he : l = l') : OwnV f e w base (.slice (some ⟨g, 0, none⟩) n c) l' := by
  subst hl; subst he; exact h
theorem RowV.below (h : RowV f e w base g c l) (hb : Below w.heap.size w w') : RowV f e w' base g c l := OwnV.below h hb
theorem RowV.alloc (h : RowV f e w base g c l) (o : Obj) : RowV f e (w.alloc o) base g c l := OwnV.alloc h o
theorem RowV.cell (h : RowV f e w base g c l) (j : Nat) (x : α) (hj : l[j]? = some x) : w.cell? ⟨g, j, none⟩ = some (f x) := by
  have hl : j < l.length := (List.getElem?_eq_some_iff.1 hj).1
  rw [World.ownsRow.cellAt h j (by omega), List.getElem?_map, hj]; rfl
theorem RowV.frozen (h : RowV f e w base g c l) (j : Nat) : w.frozen? ⟨g, j, none⟩ = false := World.ownsRow.frozenAt h j
theorem RowV.store (h : RowV f e w base g c l) (j : Nat) (x : α) : RowV f e (w.setCell ⟨g, j, none⟩ (f x)) base g c (l.set j x) := by
  have := (World.ownsRow.stored h j (f x)).1
  unfold RowV OwnV
  rw [List.length_set, List.map_set]
  exact this
theorem RowV.made (f : α → Value) (z : α) (e : TypeId) (w : World) (base n : Nat) (hb : base ≤ w.heap.size) (hm : n ≤ maxLen) :
    RowV f e (w.alloc (.cells (madeCells #[f z] n) e)) base w.heap.size n (List.replicate n z) := by
  have := World.ownsRow_lit (base := base) (e := e) (size := 1) w (madeCells #[f z] n) n hb hm (by rw [size_madeCells, Nat.mul_one])
  rw [toList_madeCells_one] at this
  unfold RowV OwnV
  rw [List.length_replicate, List.map_replicate]
  exact this

theorem RdV.nil (f : α → Value) (w : World) (B : Nat) : RdV f w B (.slice none 0 0) [] := ⟨none, 0, rfl, Nat.le_refl _, Nat.zero_le _, fun i x hx => by simp at hx⟩
theorem RdV.more {B B' : Nat} (h : RdV f w B v l) (hB : B ≤ B') : RdV f w B' v l := by
  obtain ⟨A, c, hv, hc, hm, hr⟩ := h
  refine ⟨A, c, hv, hc, hm, fun i x hi => ?_⟩
  obtain ⟨ad, h1, h2, h3⟩ := hr i x hi
  exact ⟨ad, h1, by omega, h3⟩
theorem RdV.below {B : Nat} (h : RdV f w B v l) (hb : Below B w w') : RdV f w' B v l := by
  obtain ⟨A, c, hv, hc, hm, hr⟩ := h
  refine ⟨A, c, hv, hc, hm, fun i x hi => ?_⟩
  obtain ⟨ad, h1, h2, h3⟩ := hr i x hi
  exact ⟨ad, h1, h2, by rw [hb.cell (by rw [block_add]; exact h2)]; exact h3⟩
theorem RdV.step (h : RdV f w w.heap.size v l) (hb : Below w.heap.size w w') : RdV f w' w'.heap.size v l := (h.below hb).more hb.size
theorem RdV.head {B : Nat} {A : Option Addr} {k : Nat} {m : List α} (h : RdV f w B (.slice A k c) l) (hm : m = l.take m.length) (hml : m.length ≤ l.length) : RdV f w B (.slice A m.length c) m := by
  obtain ⟨A', c', hv, hc, hx, hr⟩ := h
  cases hv
  refine ⟨A, c, rfl, by omega, hx, fun i x hi => hr i x ?_⟩
  have hl : i < m.length := (List.getElem?_eq_some_iff.1 hi).1
  rw [hm, List.getElem?_take, if_pos hl] at hi
  exact hi
theorem RowV.read (h : RowV f e w base g c l) : RdV f w w.heap.size (.slice (some ⟨g, 0, none⟩) l.length c) l := by
  have hlt := h.lt.2
  have hc : l.length ≤ c ∧ c ≤ maxLen := by
    have h' : w.ownsRow base e 1 (.slice (some ⟨g, 0, none⟩) l.length c) l.length (l.map f) := h
    rcases h'.2 with ⟨h1, _⟩ | ⟨g', c', cur, h1, _, _, h3, h4, _⟩
    · cases h1
    · cases h1; exact ⟨h3, h4⟩
  refine ⟨_, c, rfl, hc.1, hc.2, fun i x hi => ⟨_, rfl, hlt, ?_⟩⟩
  have := h.cell i x hi
  unfold Addr.add
  by_cases h0 : i = 0
  · subst h0; simpa using this
  · simpa [h0] using this
theorem OwnV.read (h : OwnV f e w base v l) : RdV f w w.heap.size v l := by
  rcases h.forms with ⟨rfl, rfl⟩ | ⟨g, c, rfl, hr⟩
  · exact RdV.nil _ _ _
  · exact hr.read
/-- A row that was just laid out. -/
theorem RdV.lit (f : α → Value) (w : World) (l : List α) (m : Nat) (e : TypeId) (hm : l.length ≤ m) (hm2 : m ≤ maxLen) : RdV f (w.alloc (.cells (l.map f).toArray e)) (w.heap.size + 1) (.slice (some ⟨w.heap.size, 0, none⟩) l.length m) l :=
  ⟨_, m, rfl, hm, hm2, fun i x hi => ⟨_, rfl, Nat.lt_succ_self _, by
    have e : ((⟨w.heap.size, 0, none⟩ : Addr).add i) = ⟨w.heap.size, i, none⟩ := by
      unfold Addr.add
      by_cases h0 : i = 0
      · subst h0; rfl
      · simp [h0]
    rw [e, World.cell?_alloc_new]
    simp [hi]⟩⟩
theorem RdV.one (f : α → Value) (w : World) (x : α) (m : Nat) (e : TypeId) (hm : 1 ≤ m) (hm2 : m ≤ maxLen) : RdV f (w.alloc (.cells #[f x] e)) (w.heap.size + 1) (.slice (some ⟨w.heap.size, 0, none⟩) 1 m) [x] := RdV.lit f w [x] m e hm hm2

/-- make([]T, n). -/
theorem run_makeV {P : Program} {t e : TypeId} {bytes : Nat} {z : Value} (hz1 : z.cells = #[z]) (ht : P.underlying t = some (.slice e)) (hinfo : (P.info? e).map (fun i => (i.zero, i.size, i.bytes)) = some (some z, 1, bytes))
    (n : Nat) (hb : bytes * n ≤ 281474976710656) (hm : n ≤ maxLen) (w : World) :
    (Instr.makeSlice t (.int .i64 (n : Int)) (.int .i64 (n : Int))).run P w = .ok (.slice (some ⟨w.heap.size, 0, none⟩) n n) (w.alloc (.cells (madeCells #[z] n) e)) := by
  obtain ⟨i, hi, hz, hsz, hby⟩ := info_parts hinfo
  unfold maxLen at hm
  have h := run_make (P := P) w t e i z ht hi hz .i64 .i64 n n (by omega) (Int.le_refl _) (by rw [hby, ← Int.natCast_mul]; omega) (by omega)
  rw [Int.toNat_natCast, hsz, Nat.mul_one, hz1] at h
  exact h

/-- append(s, x...) onto a row of the call's own. -/
theorem wpl_appV {P : Program} {ops : Array Oper} {rest : List Oper} {o : Oper} {a : Act} {Q : Exit → Act → World → Prop} (hone : ∀ x : α, (f x).oneCell' = true) (z : Value) (hz1 : z.cells.size = 1) (hgd : o.guard = none) (s x : Operand) (t : TypeId)
    (ho : o.op = .call { callee := .builtin .append, args := #[s, x], argTypes := #[t, t] })
    (base : Nat) (e : TypeId) (bytes : Nat) (ht : P.underlying t = some (.slice e)) (hinfo : (P.info? e).map (fun i => (i.zero, i.size, i.bytes)) = some (some z, 1, bytes))
    (v : Value) (l : List α) (hs : a.eval s = v) (hown : OwnV f e w base v l) (B : Nat) (vx : Value) (m : List α) (hx : a.eval x = vx) (hr : RdV f w B vx m)
    (hlen : l.length + m.length ≤ maxLen) (hbytes : (l.length + m.length) * bytes ≤ 140737488355328) (hbase : base ≤ w.heap.size)
    (h : ∀ v' w', OwnV f e w' base v' (l ++ m) → Below base w w' → w.grownBy w' v.ownBlock → wpList P ops Q rest (a.put o.dst v') w') : wpList P ops Q (o :: rest) a w := by
  obtain ⟨i, hi, hz, hsz, hby⟩ := info_parts hinfo
  have fin : ∀ v' w', w'.ownsRow base e 1 v' (l.length + m.length) (l.map f ++ m.map f) → w.grownBy w' v.ownBlock → wpList P ops Q rest (a.put o.dst v') w' := fun v' w' ho' hg => by
    refine h v' w' ?_ ((Below.refl _ _).grown hg hbase (fun b hb => (OwnV.lt hown b hb).1)) hg
    unfold OwnV
    rw [List.length_append, List.map_append]; exact ho'
  obtain ⟨A, c, rfl, hc, hm, hcell⟩ := hr
  rcases A with _ | ad
  · have hm' : m = [] := by
      cases m with
      | nil => rfl
      | cons y m => obtain ⟨ad, h1, _⟩ := hcell 0 y rfl; cases h1
    subst hm'
    refine wpList_plain hgd fun K hK => ?_
    have hrun : (Builtin.append_ #[t, t] o.type #[v, .slice none 0 c]).run P w = .ok v w := by
      rcases hown.2 with ⟨rfl, _⟩ | ⟨g, cap, cur, rfl, _, _, hnc, _⟩
      · simp [Builtin.append_, run_underlying ht, sizeOf, typeInfo, hi, Builtin.lenOf, Builtin.firstCells]
      · simp [Builtin.append_, run_underlying ht, sizeOf, typeInfo, hi, Builtin.lenOf, Builtin.firstCells, hnc, storeCells]
    unfold Oper.wp
    simp [execOp, ho, resolve, invoke, builtin, hs, hx, hrun, Result.andThen]
    exact hK _ _ (fin v w (by simpa [OwnV] using hown) (World.grownBy.refl w _))
  · refine wpList_append_own w hgd s x t ho base e i z 1 bytes ht hi hz hsz hby hz1 (by decide) v l.length (l.map f) hs hown ad m.length c (m.map f) hx (by rw [List.length_map]; omega) ?_ ?_ hlen hbytes hbase ?_
    · intro j u hj
      rw [List.getElem?_map] at hj
      cases hmj : m[j]? with
      | none => rw [hmj] at hj; simp at hj
      | some y =>
        rw [hmj] at hj
        simp only [Option.map_some, Option.some.injEq] at hj
        obtain ⟨ad', h1, _, h3⟩ := hcell j y hmj
        cases h1
        rw [h3, hj]
    · intro u hu
      simp only [List.mem_map] at hu
      obtain ⟨y, _, rfl⟩ := hu
      exact hone y
    · intro v' w' ho' hg _
      exact fin v' w' ho' hg

/-- It returns a list of its own; what was there is as it was. -/
def RetV (f : α → Value) (e : TypeId) (l : List α) (w : World) : Ending → World → Prop := fun en w' =>
  ∃ v, en = .returned v ∧ OwnV f e w' w.heap.size v l ∧ Below w.heap.size w w'
theorem RetV.mk {x : Value} (hx : x = v) (ho : OwnV f e w' w.heap.size v l) (hb : Below w.heap.size w w') : RetV f e l w (.returned x) w' := ⟨v, by rw [hx], ho, hb⟩
end

section
variable {H : Type} {enc : TypeId × Value → H} {P : Program}
end
end Go.VB

namespace Go.MK
open Go.RowKit Go.VB
/-- How an element lies: its cells, K of them; z is the zero element. -/
structure Lay (α : Type) where
  K : Nat
  cs : α → List Value
  len : ∀ x, (cs x).length = K
  pos : 0 < K
  one : ∀ x, ∀ u ∈ cs x, u.oneCell' = true
  z : α
  zv : Value
  zc : zv.cells.toList = cs z
section
variable {α : Type} {L : Lay α}
theorem addr_addK (a : Addr) (i j : Nat) : (a.add i).add j = a.add (i + j) := by
  unfold Addr.add
  by_cases hi : i = 0
  · subst hi; simp
  · by_cases hj : j = 0
    · subst hj; simp [hi]
    · simp [hi, hj, Nat.add_assoc]
theorem at_offK (a : Addr) (n k : Nat) (hk : k ≠ 0) : a.add (n + k) = ⟨(a.add n).block, (a.add n).off + k, none⟩ := by
  rw [← addr_addK]
  show (a.add n).add k = _
  generalize a.add n = b
  unfold Addr.add
  rw [if_neg hk]
theorem addr0K (g n : Nat) : (⟨g, 0, none⟩ : Addr).add n = ⟨g, n, none⟩ := by
  unfold Addr.add
  by_cases h : n = 0
  · rw [if_pos h, h]
  · rw [if_neg h, Nat.zero_add]
/-- Element i of a row that begins at ad is x. -/
def AtK (L : Lay α) (w : World) (ad : Addr) (i : Nat) (x : α) : Prop := ∀ k u, (L.cs x)[k]? = some u → w.cell? (ad.add (i * L.K + k)) = some u
variable {w w' w0 : World} {B B' base c n k g i : Nat} {v : Value} {l m : List α} {e : TypeId} {A : Option Addr} {ad : Addr} {x : α} {u : Value}
theorem AtK.c0 (h : AtK L w ad i x) (hu : (L.cs x)[0]? = some u) : w.cell? (ad.add (i * L.K)) = some u := h 0 u hu
theorem AtK.ck (h : AtK L w ad i x) (k : Nat) (hk : k ≠ 0) (hu : (L.cs x)[k]? = some u) : w.cell? ⟨(ad.add (i * L.K)).block, (ad.add (i * L.K)).off + k, none⟩ = some u := by
  rw [← at_offK _ _ _ hk]; exact h k u hu
theorem AtK.below (h : AtK L w ad i x) (hb : Below B w w') (hB : ad.block < B) : AtK L w' ad i x := fun k u hu => by
  rw [hb.cell (by rw [block_add]; exact hB)]; exact h k u hu
/-- The slice v can be read and holds the elements l; it lies below block B. -/
def RdK (L : Lay α) (w : World) (B : Nat) (v : Value) (l : List α) : Prop :=
  ∃ A c, v = .slice A l.length c ∧ l.length ≤ c ∧ c ≤ maxLen ∧ ∀ i x, l[i]? = some x → ∃ ad, A = some ad ∧ ad.block < B ∧ AtK L w ad i x
theorem RdK.nil (L : Lay α) (w : World) (B : Nat) : RdK L w B (.slice none 0 0) [] := ⟨none, 0, rfl, Nat.le_refl _, Nat.zero_le _, fun i x hx => by simp at hx⟩
theorem RdK.below (h : RdK L w B v l) (hb : Below B w w') : RdK L w' B v l := by
  obtain ⟨A, c, hv, hc, hm, hr⟩ := h
  refine ⟨A, c, hv, hc, hm, fun i x hi => ?_⟩
  obtain ⟨ad, h1, h2, h3⟩ := hr i x hi
  exact ⟨ad, h1, h2, h3.below hb h2⟩
theorem RdK.more (h : RdK L w B v l) (hB : B ≤ B') : RdK L w B' v l := by
  obtain ⟨A, c, hv, hc, hm, hr⟩ := h
  refine ⟨A, c, hv, hc, hm, fun i x hi => ?_⟩
  obtain ⟨ad, h1, h2, h3⟩ := hr i x hi
  exact ⟨ad, h1, by omega, h3⟩
theorem RdK.step (h : RdK L w w.heap.size v l) (hb : Below w.heap.size w w') : RdK L w' w'.heap.size v l := (h.below hb).more hb.size
theorem RdK.at (h : RdK L w B (.slice A n c) l) (hx : l[i]? = some x) : ∃ ad, A = some ad ∧ ad.block < B ∧ AtK L w ad i x := by
  obtain ⟨A', c', hv, _, _, hr⟩ := h
  cases hv
  exact hr i x hx
theorem RdK.bds (h : RdK L w B v l) : ∃ A c n, v = .slice A n c ∧ n = l.length ∧ n ≤ c ∧ c ≤ 9223372036854775807 := by
  obtain ⟨A, c, rfl, h1, h2, _⟩ := h
  exact ⟨A, c, _, rfl, rfl, h1, h2⟩
/-- The cells of elements, one after another. -/
def cellsK (L : Lay α) (l : List α) : List Value := l.flatMap L.cs
theorem cellsK_len : ∀ l : List α, (cellsK L l).length = l.length * L.K
  | [] => by simp [cellsK]
  | x :: r => by
    show (L.cs x ++ cellsK L r).length = _
    rw [List.length_append, cellsK_len r, List.length_cons, L.len, Nat.add_mul, Nat.one_mul, Nat.add_comm]
theorem cellsK_get : ∀ (l : List α) (i k : Nat) (x : α), l[i]? = some x → k < L.K → (cellsK L l)[i * L.K + k]? = (L.cs x)[k]?
  | [], i, _, _, h, _ => by simp at h
  | y :: r, 0, k, x, h, hk => by
    simp at h; subst h
    show (L.cs y ++ cellsK L r)[0 * L.K + k]? = _
    rw [Nat.zero_mul, Nat.zero_add, List.getElem?_append_left (by rw [L.len]; exact hk)]
  | y :: r, i + 1, k, x, h, hk => by
    show (L.cs y ++ cellsK L r)[(i + 1) * L.K + k]? = _
    have e : (i + 1) * L.K + k = L.K + (i * L.K + k) := by rw [Nat.add_mul, Nat.one_mul]; omega
    rw [e, List.getElem?_append_right (by rw [L.len]; omega), L.len, Nat.add_sub_cancel_left, cellsK_get r i k x (by simpa using h) hk]
theorem cellsK_at {j : Nat} (hu : (cellsK L l)[j]? = some u) : ∃ x, l[j / L.K]? = some x ∧ (L.cs x)[j % L.K]? = some u := by
  have hj : j < (cellsK L l).length := (List.getElem?_eq_some_iff.1 hu).1
  rw [cellsK_len] at hj
  have hq : j / L.K < l.length := Nat.div_lt_of_lt_mul (by rw [Nat.mul_comm]; exact hj)
  have hx : l[j / L.K]? = some l[j / L.K] := List.getElem?_eq_getElem hq
  refine ⟨_, hx, ?_⟩
  have := cellsK_get l (j / L.K) (j % L.K) _ hx (Nat.mod_lt _ L.pos)
  rw [Nat.mul_comm, Nat.div_add_mod] at this
  rw [← this, hu]
theorem RdK.cells (h : RdK L w B (.slice (some ad) n c) l) : ∀ j u, (cellsK L l)[j]? = some u → w.cell? (ad.add j) = some u := fun j u hu => by
  obtain ⟨x, hx, hc⟩ := cellsK_at hu
  obtain ⟨_, e1, _, h3⟩ := h.at hx
  cases e1
  have := h3 _ _ hc
  rwa [Nat.mul_comm, Nat.div_add_mod] at this
/-- The slice v is the call's own and holds the elements l. -/
def OwnK (L : Lay α) (e : TypeId) (w : World) (base : Nat) (v : Value) (l : List α) : Prop := w.ownsRow base e L.K v l.length (cellsK L l)
/-- The slice that begins block g is the call's own and holds the elements l. -/
def RowK (L : Lay α) (e : TypeId) (w : World) (base g c : Nat) (l : List α) : Prop := OwnK L e w base (.slice (some ⟨g, 0, none⟩) l.length c) l
theorem OwnK.nil (L : Lay α) (e : TypeId) (w : World) (base : Nat) : OwnK L e w base (.slice none 0 0) [] := World.ownsRow_nil w base e L.K
theorem OwnK.alloc (h : OwnK L e w base v l) (o : Obj) : OwnK L e (w.alloc o) base v l := World.ownsRow.alloc h o
theorem OwnK.lt (h : OwnK L e w base v l) : ∀ b, v.ownBlock = some b → base ≤ b ∧ b < w.heap.size := World.ownsRow.lt h
theorem OwnK.below (h : OwnK L e w base v l) (hb : Below w.heap.size w w') : OwnK L e w' base v l := by
  refine World.ownsRow.kept (row := none) h ⟨hb.os, hb.tape, hb.output, hb.size, fun b hlt _ => hb.block b hlt⟩ ?_
  rcases hv : v.ownBlock with _ | b
  · exact .inl rfl
  · exact .inr (by simp)
theorem OwnK.forms (h : OwnK L e w base v l) : (v = .slice none 0 0 ∧ l = []) ∨ ∃ g c, v = .slice (some ⟨g, 0, none⟩) l.length c ∧ RowK L e w base g c l := by
  rcases Joins.ownsRow_forms h with ⟨h1, h2⟩ | ⟨g, c, rfl⟩
  · exact .inl ⟨h1, List.eq_nil_of_length_eq_zero h2⟩
  · exact .inr ⟨g, c, rfl, h⟩
theorem OwnK.read (h : OwnK L e w base v l) : RdK L w w.heap.size v l := by
  have hlt := h.lt
  rcases h.2 with ⟨rfl, hn⟩ | ⟨g, c, cur, rfl, _, _, h3, h4, _⟩
  · have := List.eq_nil_of_length_eq_zero hn
    subst this
    exact RdK.nil _ _ _
  · refine ⟨some ⟨g, 0, none⟩, c, rfl, h3, h4, fun i x hx => ⟨_, rfl, (hlt g rfl).2, fun k u hu => ?_⟩⟩
    have hk : k < L.K := by rw [← L.len x]; exact (List.getElem?_eq_some_iff.1 hu).1
    exact World.ownsRow.cells h (g := g) rfl (i * L.K + k) u (by rw [cellsK_get l i k x hx hk]; exact hu)
theorem RowK.lt (h : RowK L e w base g c l) : base ≤ g ∧ g < w.heap.size := World.ownsRow.lt h g rfl
theorem RowK.own (h : RowK L e w base g c l) : OwnK L e w base (.slice (some ⟨g, 0, none⟩) l.length c) l := h
theorem RowK.own_at {l' : List α} (h : RowK L e w base g c l) (hl : l.length = n) (he : l = l') : OwnK L e w base (.slice (some ⟨g, 0, none⟩) n c) l' := by
  subst hl; subst he; exact h
theorem RowK.below (h : RowK L e w base g c l) (hb : Below w.heap.size w w') : RowK L e w' base g c l := OwnK.below h hb
theorem RowK.alloc (h : RowK L e w base g c l) (o : Obj) : RowK L e (w.alloc o) base g c l := OwnK.alloc h o
theorem RowK.frozen (h : RowK L e w base g c l) (j : Nat) : w.frozen? ⟨g, j, none⟩ = false := World.ownsRow.frozenAt h j
theorem RowK.at (h : RowK L e w base g c l) (hx : l[i]? = some x) (k : Nat) (hu : (L.cs x)[k]? = some u) : w.cell? ⟨g, i * L.K + k, none⟩ = some u := by
  obtain ⟨ad, h1, _, h3⟩ := (OwnK.read h).at hx
  cases h1
  have := h3 k u hu
  rwa [addr0K] at this
theorem cellsK_set : ∀ (l : List α) (i k : Nat) (y : Value) (x x' : α), l[i]? = some x → k < L.K → (L.cs x).set k y = L.cs x' → (cellsK L l).set (i * L.K + k) y = cellsK L (l.set i x')
  | [], _, _, _, _, _, h, _, _ => by simp at h
  | z :: r, 0, k, y, x, x', h, hk, he => by
    simp at h; subst h
    show (L.cs z ++ cellsK L r).set (0 * L.K + k) y = L.cs x' ++ cellsK L r
    rw [Nat.zero_mul, Nat.zero_add, List.set_append, if_pos (show k < (L.cs z).length from by rw [L.len]; exact hk), he]
  | z :: r, i + 1, k, y, x, x', h, hk, he => by
    show (L.cs z ++ cellsK L r).set ((i + 1) * L.K + k) y = L.cs z ++ cellsK L (r.set i x')
    have e : (i + 1) * L.K + k = L.K + (i * L.K + k) := by rw [Nat.add_mul, Nat.one_mul]; omega
    rw [e, List.set_append, if_neg (show ¬ L.K + (i * L.K + k) < (L.cs z).length from by rw [L.len]; omega), L.len, Nat.add_sub_cancel_left,
      cellsK_set r i k y x x' (by simpa using h) hk he]
/-- One cell of an element is stored. -/
theorem RowK.store (h : RowK L e w base g c l) (i k : Nat) (y : Value) {x x' : α} (hx : l[i]? = some x) (hk : k < L.K) (he : (L.cs x).set k y = L.cs x') : RowK L e (w.setCell ⟨g, i * L.K + k, none⟩ y) base g c (l.set i x') := by
  have h2 := (World.ownsRow.stored h (i * L.K + k) y).1
  unfold RowK OwnK
  rw [List.length_set, ← cellsK_set l i k y x x' hx hk he]
  exact h2
theorem madeK_cells (n : Nat) : (madeCells L.zv.cells (n * L.K)).toList = cellsK L (List.replicate n L.z) := by
  have hz : L.zv.cells.size = L.K := by rw [← L.len L.z, ← L.zc, Array.length_toList]
  apply List.ext_getElem?
  intro j
  by_cases hj : j < n * L.K
  · have hr : (List.replicate n L.z)[j / L.K]? = some L.z := by rw [List.getElem?_replicate, if_pos (Nat.div_lt_of_lt_mul (by rw [Nat.mul_comm]; exact hj))]
    have := cellsK_get (List.replicate n L.z) (j / L.K) (j % L.K) L.z hr (Nat.mod_lt _ L.pos)
    rw [Nat.mul_comm, Nat.div_add_mod] at this
    rw [this]
    unfold madeCells
    rw [Array.getElem?_toList, Array.getElem?_map, Array.getElem?_range, if_pos hj]
    have hb : j % L.K < L.zv.cells.size := by rw [hz]; exact Nat.mod_lt _ L.pos
    rw [Option.map_some, hz, ← L.zc, Array.getElem?_toList, getElem!_pos L.zv.cells (j % L.K) hb, Array.getElem?_eq_getElem hb]
  · rw [List.getElem?_eq_none (by rw [Array.length_toList, size_madeCells]; omega), List.getElem?_eq_none (by rw [cellsK_len, List.length_replicate]; omega)]
theorem RowK.made (L : Lay α) (e : TypeId) (w : World) (base n : Nat) (hb : base ≤ w.heap.size) (hm : n ≤ maxLen) :
    RowK L e (w.alloc (.cells (madeCells L.zv.cells (n * L.K)) e)) base w.heap.size n (List.replicate n L.z) := by
  have := World.ownsRow_lit (base := base) (e := e) (size := L.K) w (madeCells L.zv.cells (n * L.K)) n hb hm (by rw [size_madeCells])
  rw [madeK_cells] at this
  unfold RowK OwnK
  rw [List.length_replicate]
  exact this
/-- A row that was just laid out. -/
theorem RdK.lit (w : World) (l : List α) (m : Nat) (e : TypeId) (hm : l.length ≤ m) (hm2 : m ≤ maxLen) : RdK L (w.alloc (.cells (cellsK L l).toArray e)) (w.heap.size + 1) (.slice (some ⟨w.heap.size, 0, none⟩) l.length m) l := by
  refine ⟨_, m, rfl, hm, hm2, fun i x hx => ⟨_, rfl, Nat.lt_succ_self _, fun k u hu => ?_⟩⟩
  have hk : k < L.K := by rw [← L.len x]; exact (List.getElem?_eq_some_iff.1 hu).1
  rw [addr0K, World.cell?_alloc_new]
  have := cellsK_get l i k x hx hk
  simp only [List.getElem?_toArray]
  rw [this, hu]
/-- Cells stored one behind the other. -/
def putC : World → Nat → Nat → List Value → World
  | w, _, _, [] => w
  | w, g, o, u :: r => putC (w.setCell ⟨g, o, none⟩ u) g (o + 1) r
def setL : List Value → Nat → List Value → List Value
  | xs, _, [] => xs
  | xs, o, u :: r => setL (xs.set o u) (o + 1) r
theorem setL_get : ∀ (us xs : List Value) (o j : Nat), (setL xs o us)[j]? = if o ≤ j ∧ j < o + us.length ∧ j < xs.length then us[j - o]? else xs[j]?
  | [], xs, o, j => by
    show xs[j]? = _
    rw [if_neg (by simp only [List.length_nil]; omega)]
  | u :: r, xs, o, j => by
    show (setL (xs.set o u) (o + 1) r)[j]? = _
    rw [setL_get r (xs.set o u) (o + 1) j, List.length_set]
    by_cases h1 : o + 1 ≤ j ∧ j < o + 1 + r.length ∧ j < xs.length
    · rw [if_pos h1, if_pos (by simp only [List.length_cons]; omega), show j - o = j - (o + 1) + 1 from by omega, List.getElem?_cons_succ]
    · rw [if_neg h1]
      by_cases h2 : o = j
      · subst h2
        by_cases h3 : o < xs.length
        · rw [if_pos (by simp only [List.length_cons]; omega), List.getElem?_set_self h3, Nat.sub_self, List.getElem?_cons_zero]
        · rw [if_neg (by omega), List.getElem?_eq_none (by rw [List.length_set]; omega), List.getElem?_eq_none (by omega)]
      · rw [List.getElem?_set_ne h2]
        by_cases h3 : o ≤ j ∧ j < o + (u :: r).length ∧ j < xs.length
        · simp only [List.length_cons] at h3; omega
        · rw [if_neg h3]
theorem own_putC {size : Nat} : ∀ (us xs : List Value) (o : Nat) {w : World}, w.ownsRow base e size (.slice (some ⟨g, 0, none⟩) n c) n xs → (putC w g o us).ownsRow base e size (.slice (some ⟨g, 0, none⟩) n c) n (setL xs o us)
  | [], _, _, _, h => h
  | u :: r, xs, o, _, h => own_putC r (xs.set o u) (o + 1) (World.ownsRow.stored h o u).1
theorem cellsK_put {i : Nat} (hi : i < l.length) (x' : α) : setL (cellsK L l) (i * L.K) (L.cs x') = cellsK L (l.set i x') := by
  apply List.ext_getElem?
  intro j
  rw [setL_get, L.len, cellsK_len]
  have hle : (i + 1) * L.K ≤ l.length * L.K := Nat.mul_le_mul_right _ hi
  rw [Nat.add_mul, Nat.one_mul] at hle
  by_cases hj : j < l.length * L.K
  · have hq : j / L.K < l.length := Nat.div_lt_of_lt_mul (by rw [Nat.mul_comm]; exact hj)
    have hm := Nat.mod_lt j L.pos
    have hd := Nat.div_add_mod j L.K
    have key : ∀ (l' : List α) (y : α), l'[j / L.K]? = some y → (cellsK L l')[j]? = (L.cs y)[j % L.K]? := fun l' y hy => by
      have := cellsK_get l' (j / L.K) (j % L.K) y hy hm
      rwa [Nat.mul_comm, hd] at this
    by_cases he : j / L.K = i
    · have hji : j = i * L.K + j % L.K := by rw [← he, Nat.mul_comm]; exact hd.symm
      rw [if_pos (by omega), key (l.set i x') x' (by rw [he, List.getElem?_set_self hi]), show j - i * L.K = j % L.K from by omega]
    · have hn : ¬ (i * L.K ≤ j ∧ j < i * L.K + L.K ∧ j < l.length * L.K) := by
        rintro ⟨h1, h2, _⟩
        refine he ?_
        have h4 : j - i * L.K < L.K := by omega
        have e1 : j = L.K * i + (j - i * L.K) := by have := Nat.mul_comm L.K i; omega
        rw [e1, Nat.mul_add_div L.pos, Nat.div_eq_of_lt h4, Nat.add_zero]
      rw [if_neg hn, key l l[j / L.K] (List.getElem?_eq_getElem hq), key (l.set i x') l[j / L.K] (by rw [List.getElem?_set_ne (fun e => he e.symm)]; exact List.getElem?_eq_getElem hq)]
  · rw [if_neg (by omega), List.getElem?_eq_none (by rw [cellsK_len]; omega), List.getElem?_eq_none (by rw [cellsK_len, List.length_set]; omega)]
/-- A whole element is stored. -/
theorem RowK.put (h : RowK L e w base g c l) (i : Nat) (hi : i < l.length) (x' : α) : RowK L e (putC w g (i * L.K) (L.cs x')) base g c (l.set i x') := by
  have h2 := own_putC (L.cs x') (cellsK L l) (i * L.K) h
  rw [cellsK_put hi] at h2
  unfold RowK OwnK
  rw [List.length_set]
  exact h2
theorem putC_below : ∀ (us : List Value) (o : Nat) {w : World}, Below B w0 w → B ≤ g → Below B w0 (putC w g o us)
  | [], _, _, h, _ => h
  | _ :: r, o, _, h, hB => putC_below r (o + 1) (h.setCell (p := ⟨_, o, none⟩) hB _) hB
theorem fillK_snoc {b : α} {t : List α} {n j : Nat} {x : α} (ht : t = l ++ List.replicate (n - j) b) (hl : l.length = j) (hj : j < n) : t.set j x = (l ++ [x]) ++ List.replicate (n - (j + 1)) b := by
  subst ht; subst hl
  rw [List.set_append_right _ _ (Nat.le_refl _), Nat.sub_self]
  obtain ⟨d, hd⟩ : ∃ d, n - l.length = d + 1 := ⟨n - l.length - 1, by omega⟩
  rw [hd, show n - (l.length + 1) = d from by omega, List.replicate_succ, List.set_cons_zero, List.append_assoc]; rfl
section
variable {P : Program}
/-- make([]T, n). -/
theorem run_makeK {t e : TypeId} {bytes : Nat} (ht : P.underlying t = some (.slice e)) (hinfo : (P.info? e).map (fun i => (i.zero, i.size, i.bytes)) = some (some L.zv, L.K, bytes)) (n : Nat) (hb : bytes * n ≤ 281474976710656) (hm : n ≤ maxLen) (w : World) :
    (Instr.makeSlice t (.int .i64 (n : Int)) (.int .i64 (n : Int))).run P w = .ok (.slice (some ⟨w.heap.size, 0, none⟩) n n) (w.alloc (.cells (madeCells L.zv.cells (n * L.K)) e)) := by
  obtain ⟨i, hi, hz, hsz, hby⟩ := info_parts hinfo
  unfold maxLen at hm
  have h := run_make (P := P) w t e i L.zv ht hi hz .i64 .i64 n n (by omega) (Int.le_refl _) (by rw [hby, ← Int.natCast_mul]; omega) (by omega)
  rw [Int.toNat_natCast, hsz] at h
  exact h
end
end
end Go.MK

namespace Go.ST
section
variable {α : Type} {le : α → α → Bool}
/-- A total order on classes of equal ones. -/
structure Ord (le : α → α → Bool) : Prop where
  total : ∀ a b, le a b = true ∨ le b a = true
  trans : ∀ a b c, le a b = true → le b c = true → le a c = true
def eqv (le : α → α → Bool) (a b : α) : Bool := le a b && le b a
/-- out is l in order, equal ones as they stood. -/
structure IsS (le : α → α → Bool) (l out : List α) : Prop where
  srt : out.Pairwise (fun a b => le a b = true)
  same : ∀ a, out.filter (eqv le a) = l.filter (eqv le a)
theorem Ord.refl (h : Ord le) (a : α) : le a a = true := by rcases h.total a a with h | h <;> exact h
theorem IsS.nil (le : α → α → Bool) : IsS le [] [] := ⟨List.Pairwise.nil, fun _ => rfl⟩
end
end Go.ST
