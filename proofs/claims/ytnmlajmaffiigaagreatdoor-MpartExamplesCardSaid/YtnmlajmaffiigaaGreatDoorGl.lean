/- Slices of values, three cells each: what can be read, rows that a call owns, append, cuts, what comes in. -/
import Derived.Test.YtnmlajmaffiigaaGreatDoorGw
import Derived.Test.YtnmlajmaffiigaaGreatDoorGm
import Derived.Deep.Slices
namespace Go.VS
open Go.RowKit Go.VB
/-- A value. -/
structure Vl where
  nu : Bool
  n : Int
  s : ByteArray
def vl0 : Vl := ⟨false, 0, ⟨#[]⟩⟩
def Vl.cells (v : Vl) : List Value := [.bool v.nu, .int .i64 v.n, .string v.s]
def Vl.val (v : Vl) : Value := .agg #[.bool v.nu, .int .i64 v.n, .string v.s]
structure At3 (w : World) (ad : Addr) (j : Nat) (x : Vl) : Prop where
  c0 : w.cell? (ad.add (j * 3)) = some (.bool x.nu)
  c1 : w.cell? ⟨(ad.add (j * 3)).block, (ad.add (j * 3)).off + 1, none⟩ = some (.int .i64 x.n)
  c2 : w.cell? ⟨(ad.add (j * 3)).block, (ad.add (j * 3)).off + 2, none⟩ = some (.string x.s)
theorem addr_addV (a : Addr) (i j : Nat) : (a.add i).add j = a.add (i + j) := by
  unfold Addr.add
  by_cases hi : i = 0
  · subst hi; simp
  · by_cases hj : j = 0
    · subst hj; simp [hi]
    · simp [hi, hj, Nat.add_assoc]
theorem at_off3 (a : Addr) (n k : Nat) (hk : k ≠ 0) : a.add (n + k) = ⟨(a.add n).block, (a.add n).off + k, none⟩ := by
  rw [← addr_addV]
  show (a.add n).add k = _
  generalize a.add n = b
  unfold Addr.add
  rw [if_neg hk]
theorem At3.mk' {w : World} {ad : Addr} {j : Nat} {x : Vl} (h0 : w.cell? (ad.add (j * 3)) = some (.bool x.nu)) (h1 : w.cell? (ad.add (j * 3 + 1)) = some (.int .i64 x.n)) (h2 : w.cell? (ad.add (j * 3 + 2)) = some (.string x.s)) : At3 w ad j x :=
  ⟨h0, by rw [← at_off3 _ _ _ (by decide)]; exact h1, by rw [← at_off3 _ _ _ (by decide)]; exact h2⟩
theorem At3.below {w w' : World} {B : Nat} {ad : Addr} {j : Nat} {x : Vl} (h : At3 w ad j x) (hb : Below B w w') (hB : ad.block < B) : At3 w' ad j x := by
  have hlt : (ad.add (j * 3)).block < B := by rw [block_add]; exact hB
  exact ⟨(hb.cell hlt).trans h.c0, (hb.cell (p := ⟨(ad.add (j * 3)).block, _, none⟩) hlt).trans h.c1, (hb.cell (p := ⟨(ad.add (j * 3)).block, _, none⟩) hlt).trans h.c2⟩
theorem At3.cell {w : World} {ad : Addr} {j : Nat} {x : Vl} (h : At3 w ad j x) {k : Nat} {u : Value} (hu : x.cells[k]? = some u) : w.cell? (ad.add (j * 3 + k)) = some u := by
  match k, hu with
  | 0, hu => cases hu; exact h.c0
  | 1, hu => cases hu; rw [at_off3 _ _ _ (by decide)]; exact h.c1
  | 2, hu => cases hu; rw [at_off3 _ _ _ (by decide)]; exact h.c2
/-- The slice v can be read and holds the values l; it lies below block B. -/
def RdL (w : World) (B : Nat) (v : Value) (l : List Vl) : Prop :=
  ∃ A c, v = .slice A l.length c ∧ l.length ≤ c ∧ c ≤ maxLen ∧ ∀ i x, l[i]? = some x → ∃ ad, A = some ad ∧ ad.block < B ∧ At3 w ad i x
section
variable {w w' : World} {B B' base c n k : Nat} {v : Value} {l m : List Vl} {e : TypeId} {A : Option Addr} {ad : Addr} {x : Vl} {i : Nat}
theorem RdL.nil (w : World) (B : Nat) : RdL w B (.slice none 0 0) [] := ⟨none, 0, rfl, Nat.le_refl _, Nat.zero_le _, fun i x hx => by simp at hx⟩
theorem RdL.below (h : RdL w B v l) (hb : Below B w w') : RdL w' B v l := by
  obtain ⟨A, c, hv, hc, hm, hr⟩ := h
  refine ⟨A, c, hv, hc, hm, fun i x hi => ?_⟩
  obtain ⟨ad, h1, h2, h3⟩ := hr i x hi
  exact ⟨ad, h1, h2, h3.below hb h2⟩
theorem RdL.more (h : RdL w B v l) (hB : B ≤ B') : RdL w B' v l := by
  obtain ⟨A, c, hv, hc, hm, hr⟩ := h
  refine ⟨A, c, hv, hc, hm, fun i x hi => ?_⟩
  obtain ⟨ad, h1, h2, h3⟩ := hr i x hi
  exact ⟨ad, h1, by omega, h3⟩
theorem RdL.step (h : RdL w w.heap.size v l) (hb : Below w.heap.size w w') : RdL w' w'.heap.size v l := (h.below hb).more hb.size
theorem RdL.at (h : RdL w B (.slice A n c) l) (hx : l[i]? = some x) : ∃ ad, A = some ad ∧ ad.block < B ∧ At3 w ad i x := by
  obtain ⟨A', c', hv, _, _, hr⟩ := h
  cases hv
  exact hr i x hx
theorem RdL.bds (h : RdL w B v l) : ∃ A c n, v = .slice A n c ∧ n = l.length ∧ n ≤ c ∧ c ≤ 9223372036854775807 := by
  obtain ⟨A, c, rfl, h1, h2, _⟩ := h
  exact ⟨A, c, _, rfl, rfl, h1, h2⟩
/-- The cells of values, one after another. -/
def vlCells (l : List Vl) : List Value := l.flatMap Vl.cells
theorem vlCells_len : ∀ l : List Vl, (vlCells l).length = l.length * 3
  | [] => rfl
  | x :: r => by
    show (x.cells ++ vlCells r).length = _
    rw [List.length_append, vlCells_len r, List.length_cons]
    show 3 + _ = _
    omega
theorem vlCells_app (a b : List Vl) : vlCells (a ++ b) = vlCells a ++ vlCells b := List.flatMap_append
theorem vlCells_get : ∀ (l : List Vl) (i k : Nat) (x : Vl), l[i]? = some x → k < 3 → (vlCells l)[i * 3 + k]? = x.cells[k]?
  | [], i, _, _, h, _ => by simp at h
  | y :: r, 0, k, x, h, hk => by
    simp at h; subst h
    show (y.cells ++ vlCells r)[0 * 3 + k]? = _
    rw [Nat.zero_mul, Nat.zero_add, List.getElem?_append_left (show k < y.cells.length from hk)]
  | y :: r, i + 1, k, x, h, hk => by
    show (y.cells ++ vlCells r)[(i + 1) * 3 + k]? = _
    rw [List.getElem?_append_right (show y.cells.length ≤ (i + 1) * 3 + k from by show 3 ≤ _; omega), show (i + 1) * 3 + k - y.cells.length = i * 3 + k from by show _ - 3 = _; omega,
      vlCells_get r i k x (by simpa using h) hk]
theorem vlCells_one (l : List Vl) : ∀ u ∈ vlCells l, u.oneCell' = true := by
  intro u hu
  obtain ⟨x, _, hx⟩ := List.mem_flatMap.1 hu
  simp only [Vl.cells, List.mem_cons, List.not_mem_nil, or_false] at hx
  rcases hx with rfl | rfl | rfl <;> rfl
theorem vlCells_at {j : Nat} {u : Value} (hu : (vlCells l)[j]? = some u) : ∃ x, l[j / 3]? = some x ∧ x.cells[j % 3]? = some u := by
  have hj : j < (vlCells l).length := (List.getElem?_eq_some_iff.1 hu).1
  rw [vlCells_len] at hj
  have hx : l[j / 3]? = some (l[j / 3]'(by omega)) := List.getElem?_eq_getElem _
  refine ⟨_, hx, ?_⟩
  have := vlCells_get l (j / 3) (j % 3) _ hx (by omega)
  rw [show j / 3 * 3 + j % 3 = j from by omega] at this
  rw [← this, hu]
theorem RdL.cells (h : RdL w B (.slice (some ad) n c) l) : ∀ j u, (vlCells l)[j]? = some u → w.cell? (ad.add j) = some u := fun j u hu => by
  obtain ⟨x, hx, hc⟩ := vlCells_at hu
  obtain ⟨_, e1, _, h3⟩ := h.at hx
  cases e1
  have := h3.cell hc
  rwa [show j / 3 * 3 + j % 3 = j from by omega] at this
/-- The slice v is the call's own and holds the values l. -/
def OwnL (e : TypeId) (w : World) (base : Nat) (v : Value) (l : List Vl) : Prop := w.ownsRow base e 3 v l.length (vlCells l)
theorem OwnL.nil (e : TypeId) (w : World) (base : Nat) : OwnL e w base (.slice none 0 0) [] := World.ownsRow_nil w base e 3
theorem OwnL.alloc (h : OwnL e w base v l) (o : Obj) : OwnL e (w.alloc o) base v l := World.ownsRow.alloc h o
theorem OwnL.lower (h : OwnL e w base v l) {b' : Nat} (hb : b' ≤ base) : OwnL e w b' v l := Joins.ownsRow_le h hb
theorem OwnL.lt (h : OwnL e w base v l) : ∀ b, v.ownBlock = some b → base ≤ b ∧ b < w.heap.size := World.ownsRow.lt h
theorem OwnL.keep {row : Option Nat} (h : OwnL e w base v l) (hg : w.grownBy w' row) (hne : v.ownBlock = none ∨ v.ownBlock ≠ row) : OwnL e w' base v l := World.ownsRow.kept h hg hne
theorem OwnL.below (h : OwnL e w base v l) (hb : Below w.heap.size w w') : OwnL e w' base v l := by
  refine World.ownsRow.kept (row := none) h ⟨hb.os, hb.tape, hb.output, hb.size, fun b hlt _ => hb.block b hlt⟩ ?_
  rcases hv : v.ownBlock with _ | b
  · exact .inl rfl
  · exact .inr (by simp)
theorem OwnL.read (h : OwnL e w base v l) : RdL w w.heap.size v l := by
  have hlt := h.lt
  rcases h.2 with ⟨rfl, hn⟩ | ⟨g, c, cur, rfl, _, _, h3, h4, _⟩
  · have := List.eq_nil_of_length_eq_zero hn
    subst this
    exact RdL.nil _ _
  · refine ⟨some ⟨g, 0, none⟩, c, rfl, h3, h4, fun i x hx => ⟨_, rfl, (hlt g rfl).2, ?_⟩⟩
    have key : ∀ k u, k < 3 → x.cells[k]? = some u → w.cell? ((⟨g, 0, none⟩ : Addr).add (i * 3 + k)) = some u := fun k u hk hu =>
      World.ownsRow.cells h (g := g) rfl (i * 3 + k) u (by rw [vlCells_get l i k x hx hk]; exact hu)
    exact At3.mk' (key 0 _ (by decide) rfl) (key 1 _ (by decide) rfl) (key 2 _ (by decide) rfl)
/-- append(s, x...) of values onto a row of the call's own. -/
theorem wpl_appL {P : Program} {ops : Array Oper} {rest : List Oper} {o : Oper} {a : Act} {Q : Exit → Act → World → Prop} (hgd : o.guard = none) (s x : Operand) (t : TypeId)
    (ho : o.op = .call { callee := .builtin .append, args := #[s, x], argTypes := #[t, t] })
    (base : Nat) (e : TypeId) (ht : P.underlying t = some (.slice e)) (hinfo : (P.info? e).map (fun i => (i.zero, i.size, i.bytes)) = some (some vl0.val, 3, 32))
    (v : Value) (l : List Vl) (hs : a.eval s = v) (hown : OwnL e w base v l) (B : Nat) (vx : Value) (m : List Vl) (hx : a.eval x = vx) (hr : RdL w B vx m)
    (hlen : l.length + m.length ≤ 1000000) (hbase : base ≤ w.heap.size)
    (h : ∀ v' w', OwnL e w' base v' (l ++ m) → Below base w w' → w.grownBy w' v.ownBlock → wpList P ops Q rest (a.put o.dst v') w') : wpList P ops Q (o :: rest) a w := by
  obtain ⟨i, hi, hz, hsz, hby⟩ := info_parts hinfo
  have fin : ∀ v' w', w'.ownsRow base e 3 v' (l.length + m.length) (vlCells l ++ vlCells m) → w.grownBy w' v.ownBlock → wpList P ops Q rest (a.put o.dst v') w' := fun v' w' ho' hg => by
    refine h v' w' ?_ ((Below.refl _ _).grown hg hbase (fun b hb => (OwnL.lt hown b hb).1)) hg
    unfold OwnL
    rw [List.length_append, vlCells_app]; exact ho'
  obtain ⟨A, c, rfl, hc, hm, hcell⟩ := id hr
  rcases A with _ | ad
  · have hm' : m = [] := by
      cases m with
      | nil => rfl
      | cons y m => obtain ⟨ad, h1, _⟩ := hcell 0 y rfl; cases h1
    subst hm'
    refine wpList_plain hgd fun K hK => ?_
    have hrun : (Builtin.append_ #[t, t] o.type #[v, .slice none 0 c]).run P w = .ok v w := by
      rcases hown.2 with ⟨rfl, _⟩ | ⟨g, cap, cur, rfl, _, _, hnc, _⟩
      · simp [Builtin.append_, run_underlying ht, sizeOf, typeInfo, hi, Builtin.lenOf, Builtin.firstCells]
      · simp [Builtin.append_, run_underlying ht, sizeOf, typeInfo, hi, Builtin.lenOf, Builtin.firstCells, hnc, storeCells]
    unfold Oper.wp
    simp [execOp, ho, resolve, invoke, builtin, hs, hx, hrun, Result.andThen]
    refine hK _ _ (fin v w ?_ (World.grownBy.refl w _))
    have := hown
    unfold OwnL at this
    simpa [vlCells] using this
  · refine wpList_append_own w hgd s x t ho base e i vl0.val 3 32 ht hi hz hsz hby rfl (by decide) v l.length (vlCells l) hs hown ad m.length c (vlCells m) hx (vlCells_len m) hr.cells (vlCells_one m) (by unfold maxLen; omega) (by omega) hbase ?_
    intro v' w' ho' hg _
    exact fin v' w' ho' hg
/-- A row that was just laid out. -/
theorem RdL.lit (w : World) (l : List Vl) (m : Nat) (e : TypeId) (hm : l.length ≤ m) (hm2 : m ≤ maxLen) : RdL (w.alloc (.cells (vlCells l).toArray e)) (w.heap.size + 1) (.slice (some ⟨w.heap.size, 0, none⟩) l.length m) l := by
  refine ⟨_, m, rfl, hm, hm2, fun i x hx => ⟨_, rfl, Nat.lt_succ_self _, ?_⟩⟩
  have key : ∀ k u, k < 3 → x.cells[k]? = some u → (w.alloc (.cells (vlCells l).toArray e)).cell? ((⟨w.heap.size, 0, none⟩ : Addr).add (i * 3 + k)) = some u := fun k u hk hu => by
    have e1 : ((⟨w.heap.size, 0, none⟩ : Addr).add (i * 3 + k)) = ⟨w.heap.size, i * 3 + k, none⟩ := by
      unfold Addr.add
      by_cases h0 : i * 3 + k = 0
      · rw [h0]; rfl
      · rw [if_neg h0]; simp
    rw [e1, World.cell?_alloc_new]
    have := vlCells_get l i k x hx hk
    simp only [List.getElem?_toArray]
    rw [this, hu]
  exact At3.mk' (key 0 _ (by decide) rfl) (key 1 _ (by decide) rfl) (key 2 _ (by decide) rfl)
/-- It returns values of its own; what was there is as it was. -/
def RetVl (e : TypeId) (l : List Vl) (w : World) : Ending → World → Prop := fun en w' => ∃ v, en = .returned v ∧ OwnL e w' w.heap.size v l ∧ Below w.heap.size w w'
theorem RetVl.mk {y : Value} (hx : y = v) (ho : OwnL e w' w.heap.size v l) (hb : Below w.heap.size w w') : RetVl e l w (.returned y) w' := ⟨v, by rw [hx], ho, hb⟩
/-- It returns values of its own and a code; what was there is as it was. -/
def RetVlE (e : TypeId) (l : List Vl) (c : Nat) (w : World) : Ending → World → Prop := fun en w' => ∃ v, en = .returned (.tuple #[v, .int .i64 (c : Int)]) ∧ OwnL e w' w.heap.size v l ∧ Below w.heap.size w w'
end
end Go.VS
namespace Go.CK
open Go.RowKit Go.VB Go.VS Go.VL
/-- Check's code for a value of a column. -/
def chkV (typ : Int) (nu : Bool) (x : Vl) : Nat := chk typ nu x.nu x.n x.s
end Go.CK
namespace Go.Proofs.YtnmlajmaffiigaaGreatDoor
open Go.RowKit Go.VB Go.VS Go.ChangeShapes Go.WideShapes Go.ChangeAt Go.Deep
theorem Tryz.infVal : (Tryz.prog.info? 49).map (fun i => (i.zero, i.size, i.bytes)) = some (some vl0.val, 3, 32) := by kernel_rfl
section
variable {H : Type} {enc : TypeId × Value → H}
end
end Go.Proofs.YtnmlajmaffiigaaGreatDoor

namespace Go.VS
open Go.RowKit Go.VB
/-- The slice that begins block g is the call's own and holds the values l. -/
def RowL (e : TypeId) (w : World) (base g c : Nat) (l : List Vl) : Prop := OwnL e w base (.slice (some ⟨g, 0, none⟩) l.length c) l
section
variable {w w' : World} {B base c n k g : Nat} {v : Value} {l m : List Vl} {e : TypeId} {x : Vl} {i : Nat}
theorem made3_cells (n : Nat) : (madeCells #[.bool false, .int .i64 0, .string ⟨#[]⟩] (n * 3)).toList = vlCells (List.replicate n vl0) := by
  apply List.ext_getElem?
  intro j
  by_cases hj : j < n * 3
  · have hr : (List.replicate n vl0)[j / 3]? = some vl0 := by rw [List.getElem?_replicate, if_pos (by omega)]
    have := vlCells_get (List.replicate n vl0) (j / 3) (j % 3) vl0 hr (by omega)
    rw [show j / 3 * 3 + j % 3 = j from by omega] at this
    rw [this]
    unfold madeCells
    rw [Array.getElem?_toList, Array.getElem?_map, Array.getElem?_range]
    have h3 : j % 3 = 0 ∨ j % 3 = 1 ∨ j % 3 = 2 := by omega
    rw [if_pos hj]
    rcases h3 with h | h | h <;> simp [h, Vl.cells, vl0]
  · rw [List.getElem?_eq_none (by rw [Array.length_toList, size_madeCells]; omega), List.getElem?_eq_none (by rw [vlCells_len, List.length_replicate]; omega)]
theorem RowL.made (e : TypeId) (w : World) (base n : Nat) (hb : base ≤ w.heap.size) (hm : n ≤ maxLen) :
    RowL e (w.alloc (.cells (madeCells #[.bool false, .int .i64 0, .string ⟨#[]⟩] (n * 3)) e)) base w.heap.size n (List.replicate n vl0) := by
  have := World.ownsRow_lit (base := base) (e := e) (size := 3) w (madeCells #[.bool false, .int .i64 0, .string ⟨#[]⟩] (n * 3)) n hb hm (by rw [size_madeCells])
  rw [made3_cells] at this
  unfold RowL OwnL
  rw [List.length_replicate]
  exact this
theorem OwnL.made0 (e : TypeId) (w : World) (base n : Nat) (hb : base ≤ w.heap.size) (hm : n ≤ maxLen) :
    OwnL e (w.alloc (.cells (madeCells #[.bool false, .int .i64 0, .string ⟨#[]⟩] (n * 3)) e)) base (.slice (some ⟨w.heap.size, 0, none⟩) 0 n) [] :=
  World.ownsRow_made w _ n hb hm (by rw [size_madeCells])
theorem RowL.lt (h : RowL e w base g c l) : base ≤ g ∧ g < w.heap.size := World.ownsRow.lt h g rfl
theorem RowL.own (h : RowL e w base g c l) : OwnL e w base (.slice (some ⟨g, 0, none⟩) l.length c) l := h
theorem RowL.own_at {l' : List Vl} (h : RowL e w base g c l) (hl : l.length = n) (he : l = l') : OwnL e w base (.slice (some ⟨g, 0, none⟩) n c) l' := by
  subst hl; subst he; exact h
theorem RowL.below (h : RowL e w base g c l) (hb : Below w.heap.size w w') : RowL e w' base g c l := OwnL.below h hb
theorem RowL.alloc (h : RowL e w base g c l) (o : Obj) : RowL e (w.alloc o) base g c l := OwnL.alloc h o
theorem RowL.frozen (h : RowL e w base g c l) (j : Nat) : w.frozen? ⟨g, j, none⟩ = false := World.ownsRow.frozenAt h j
theorem addr00 (g n : Nat) : (⟨g, 0, none⟩ : Addr).add n = ⟨g, n, none⟩ := by
  unfold Addr.add
  by_cases h : n = 0
  · rw [if_pos h, h]
  · rw [if_neg h, Nat.zero_add]
theorem RowL.at (h : RowL e w base g c l) (hx : l[i]? = some x) : w.cell? ⟨g, i * 3, none⟩ = some (.bool x.nu) ∧ w.cell? ⟨g, i * 3 + 1, none⟩ = some (.int .i64 x.n) ∧ w.cell? ⟨g, i * 3 + 2, none⟩ = some (.string x.s) := by
  obtain ⟨ad, h1, _, h3⟩ := (OwnL.read h).at hx
  cases h1
  refine ⟨?_, ?_, ?_⟩
  · have := h3.cell (k := 0) rfl; rw [addr00] at this; exact this
  · have := h3.cell (k := 1) rfl; rw [addr00] at this; exact this
  · have := h3.cell (k := 2) rfl; rw [addr00] at this; exact this
theorem vlCells_set : ∀ (l : List Vl) (i k : Nat) (y : Value) (x x' : Vl), l[i]? = some x → k < 3 → x.cells.set k y = x'.cells → (vlCells l).set (i * 3 + k) y = vlCells (l.set i x')
  | [], _, _, _, _, _, h, _, _ => by simp at h
  | z :: r, 0, k, y, x, x', h, hk, he => by
    simp at h; subst h
    show (z.cells ++ vlCells r).set (0 * 3 + k) y = x'.cells ++ vlCells r
    rw [Nat.zero_mul, Nat.zero_add, List.set_append, if_pos (show k < z.cells.length from hk), he]
  | z :: r, i + 1, k, y, x, x', h, hk, he => by
    show (z.cells ++ vlCells r).set ((i + 1) * 3 + k) y = z.cells ++ vlCells (r.set i x')
    rw [List.set_append, if_neg (show ¬ (i + 1) * 3 + k < z.cells.length from by show ¬ _ < 3; omega), show (i + 1) * 3 + k - z.cells.length = i * 3 + k from by show _ - 3 = _; omega,
      vlCells_set r i k y x x' (by simpa using h) hk he]
/-- One cell of a value is stored. -/
theorem RowL.store (h : RowL e w base g c l) (i k : Nat) (y : Value) {x x' : Vl} (hx : l[i]? = some x) (hk : k < 3) (he : x.cells.set k y = x'.cells) : RowL e (w.setCell ⟨g, i * 3 + k, none⟩ y) base g c (l.set i x') := by
  have h2 := (World.ownsRow.stored h (i * 3 + k) y).1
  unfold RowL OwnL
  rw [List.length_set, ← vlCells_set l i k y x x' hx hk he]
  exact h2
/-- A whole value is stored. -/
theorem RowL.put (h : RowL e w base g c l) (i : Nat) (x' : Vl) {x : Vl} (hx : l[i]? = some x) : RowL e (((w.setCell ⟨g, i * 3, none⟩ (.bool x'.nu)).setCell ⟨g, i * 3 + 1, none⟩ (.int .i64 x'.n)).setCell ⟨g, i * 3 + 2, none⟩ (.string x'.s)) base g c (l.set i x') := by
  have hi : i < l.length := (List.getElem?_eq_some_iff.1 hx).1
  have h1 := h.store i 0 (.bool x'.nu) (x' := ⟨x'.nu, x.n, x.s⟩) hx (by decide) rfl
  have h2 := h1.store i 1 (.int .i64 x'.n) (x := ⟨x'.nu, x.n, x.s⟩) (x' := ⟨x'.nu, x'.n, x.s⟩) (by rw [List.getElem?_set_self hi]) (by decide) rfl
  have h3 := h2.store i 2 (.string x'.s) (x := ⟨x'.nu, x'.n, x.s⟩) (x' := x') (by rw [List.set_set, List.getElem?_set_self hi]) (by decide) rfl
  rw [List.set_set, List.set_set] at h3
  exact h3
theorem set3_belowL {w0 : World} (h : Below B w0 w) (hB : B ≤ g) (i : Nat) (x y z : Value) : Below B w0 (((w.setCell ⟨g, i, none⟩ x).setCell ⟨g, i + 1, none⟩ y).setCell ⟨g, i + 2, none⟩ z) :=
  ((h.setCell hB x).setCell hB y).setCell hB z
theorem fill_snoc {α : Type} {b : α} {l t : List α} {n j : Nat} {x : α} (ht : t = l ++ List.replicate (n - j) b) (hl : l.length = j) (hj : j < n) : t.set j x = (l ++ [x]) ++ List.replicate (n - (j + 1)) b := by
  subst ht; subst hl
  rw [List.set_append_right _ _ (Nat.le_refl _), Nat.sub_self]
  obtain ⟨d, hd⟩ : ∃ d, n - l.length = d + 1 := ⟨n - l.length - 1, by omega⟩
  rw [hd, show n - (l.length + 1) = d from by omega, List.replicate_succ, List.set_cons_zero, List.append_assoc]; rfl
theorem fill_at {α : Type} {b : α} {l t : List α} {n j : Nat} (ht : t = l ++ List.replicate (n - j) b) (hl : l.length = j) (hj : j < n) : t[j]? = some b := by
  subst ht; subst hl
  rw [List.getElem?_append_right (Nat.le_refl _), Nat.sub_self, List.getElem?_replicate, if_pos (by omega)]
end
/-- make([]api.Value, n) and make([]api.Value, 0, n). -/
theorem run_make3 {P : Program} {t e : TypeId} {bytes : Nat} (ht : P.underlying t = some (.slice e)) (hinfo : (P.info? e).map (fun i => (i.zero, i.size, i.bytes)) = some (some vl0.val, 3, bytes))
    (n : Nat) (hb : bytes * n ≤ 281474976710656) (hm : n ≤ maxLen) (w : World) :
    (Instr.makeSlice t (.int .i64 (n : Int)) (.int .i64 (n : Int))).run P w = .ok (.slice (some ⟨w.heap.size, 0, none⟩) n n) (w.alloc (.cells (madeCells #[.bool false, .int .i64 0, .string ⟨#[]⟩] (n * 3)) e)) := by
  obtain ⟨i, hi, hz, hsz, hby⟩ := info_parts hinfo
  unfold maxLen at hm
  have h := run_make (P := P) w t e i vl0.val ht hi hz .i64 .i64 n n (by omega) (Int.le_refl _) (by rw [hby, ← Int.natCast_mul]; omega) (by omega)
  rw [Int.toNat_natCast, hsz] at h
  exact h
theorem run_make30 {P : Program} {t e : TypeId} {bytes : Nat} (ht : P.underlying t = some (.slice e)) (hinfo : (P.info? e).map (fun i => (i.zero, i.size, i.bytes)) = some (some vl0.val, 3, bytes))
    (n : Nat) (hb : bytes * n ≤ 281474976710656) (hm : n ≤ maxLen) (w : World) :
    (Instr.makeSlice t (.int .i64 0) (.int .i64 (n : Int))).run P w = .ok (.slice (some ⟨w.heap.size, 0, none⟩) 0 n) (w.alloc (.cells (madeCells #[.bool false, .int .i64 0, .string ⟨#[]⟩] (n * 3)) e)) := by
  obtain ⟨i, hi, hz, hsz, hby⟩ := info_parts hinfo
  unfold maxLen at hm
  have h := run_make (P := P) w t e i vl0.val ht hi hz .i64 .i64 0 n (by omega) (by omega) (by rw [hby, ← Int.natCast_mul]; omega) (by omega)
  rw [Int.toNat_natCast, hsz] at h
  exact h
end Go.VS

namespace Go.RS
open Go.RowKit Go.VB Go.VS Go.MK
/-- A slice as it lies in a cell. -/
structure Sl where
  A : Option Addr
  n : Nat
  c : Nat
def Sl.val (s : Sl) : Value := .slice s.A s.n s.c
def sl0 : Sl := ⟨none, 0, 0⟩
/-- A record as it lies: its number and its row's slice. -/
structure Rs where
  seq : Int
  row : Sl
def recL : Lay Rs where
  K := 2
  cs x := [.int .i64 x.seq, x.row.val]
  len _ := rfl
  pos := by decide
  one x u hu := by
    simp only [List.mem_cons, List.not_mem_nil, or_false] at hu
    rcases hu with rfl | rfl <;> rfl
  z := ⟨0, sl0⟩
  zv := .agg #[.int .i64 0, .slice none 0 0]
  zc := rfl
/-- A record: its number and its row. -/
structure Rc where
  seq : Int
  row : List Vl
/-- The slices hold these lists of values. -/
def DeepL (w : World) (B : Nat) (ps : List Sl) (ls : List (List Vl)) : Prop := ps.length = ls.length ∧ ∀ (i : Nat) (p : Sl) (l : List Vl), ps[i]? = some p → ls[i]? = some l → RdL w B p.val l
/-- The records hold these rows. -/
def DeepR (w : World) (B : Nat) (ps : List Rs) (l : List Rc) : Prop := ps.length = l.length ∧ ∀ (i : Nat) (p : Rs) (r : Rc), ps[i]? = some p → l[i]? = some r → p.seq = r.seq ∧ RdL w B p.row.val r.row
/-- A slice of slices of values that can be read. -/
def RdLL (w : World) (B : Nat) (v : Value) (ls : List (List Vl)) : Prop := ∃ ps, RdV Sl.val w B v ps ∧ DeepL w B ps ls
/-- A slice of records that can be read. -/
def RdR (w : World) (B : Nat) (v : Value) (l : List Rc) : Prop := ∃ ps, RdK recL w B v ps ∧ DeepR w B ps l
section
variable {w w' : World} {B B' : Nat} {v : Value} {ps : List Sl} {qs : List Rs} {ls ms : List (List Vl)} {l m : List Rc} {A : Option Addr} {n c i : Nat}
theorem DeepL.below (h : DeepL w B ps ls) (hb : Below B w w') : DeepL w' B ps ls := ⟨h.1, fun i p l h1 h2 => (h.2 i p l h1 h2).below hb⟩
theorem DeepL.more (h : DeepL w B ps ls) (hB : B ≤ B') : DeepL w B' ps ls := ⟨h.1, fun i p l h1 h2 => (h.2 i p l h1 h2).more hB⟩
theorem DeepL.step (h : DeepL w w.heap.size ps ls) (hb : Below w.heap.size w w') : DeepL w' w'.heap.size ps ls := (h.below hb).more hb.size
theorem DeepL.nil (w : World) (B : Nat) : DeepL w B [] [] := ⟨rfl, fun i p l h _ => by simp at h⟩
theorem DeepL.one {p : Sl} {x : List Vl} (h : RdL w B p.val x) : DeepL w B [p] [x] := by
  refine ⟨rfl, fun i p' l h1 h2 => ?_⟩
  match i, h1, h2 with
  | 0, h1, h2 => cases h1; cases h2; exact h
theorem DeepL.get (h : DeepL w B ps ls) {x : List Vl} (hx : ls[i]? = some x) : ∃ p, ps[i]? = some p ∧ RdL w B p.val x := by
  have hi : i < ps.length := by rw [h.1]; exact (List.getElem?_eq_some_iff.1 hx).1
  exact ⟨ps[i], List.getElem?_eq_getElem hi, h.2 i _ x (List.getElem?_eq_getElem hi) hx⟩
theorem DeepR.below (h : DeepR w B qs l) (hb : Below B w w') : DeepR w' B qs l := ⟨h.1, fun i p r h1 h2 => ⟨(h.2 i p r h1 h2).1, (h.2 i p r h1 h2).2.below hb⟩⟩
theorem DeepR.more (h : DeepR w B qs l) (hB : B ≤ B') : DeepR w B' qs l := ⟨h.1, fun i p r h1 h2 => ⟨(h.2 i p r h1 h2).1, (h.2 i p r h1 h2).2.more hB⟩⟩
theorem DeepR.step (h : DeepR w w.heap.size qs l) (hb : Below w.heap.size w w') : DeepR w' w'.heap.size qs l := (h.below hb).more hb.size
theorem DeepR.nil (w : World) (B : Nat) : DeepR w B [] [] := ⟨rfl, fun i p r h _ => by simp at h⟩
theorem DeepR.one {p : Rs} {r : Rc} (h1 : p.seq = r.seq) (h : RdL w B p.row.val r.row) : DeepR w B [p] [r] := by
  refine ⟨rfl, fun i p' r' h1' h2' => ?_⟩
  match i, h1', h2' with
  | 0, h1', h2' => cases h1'; cases h2'; exact ⟨h1, h⟩
theorem DeepR.get (h : DeepR w B qs l) {r : Rc} (hr : l[i]? = some r) : ∃ p, qs[i]? = some p ∧ p.seq = r.seq ∧ RdL w B p.row.val r.row := by
  have hi : i < qs.length := by rw [h.1]; exact (List.getElem?_eq_some_iff.1 hr).1
  exact ⟨qs[i], List.getElem?_eq_getElem hi, h.2 i _ r (List.getElem?_eq_getElem hi) hr⟩
theorem DeepR.take (h : DeepR w B qs l) (k : Nat) : DeepR w B (qs.take k) (l.take k) := by
  refine ⟨by rw [List.length_take, List.length_take, h.1], fun i p r h1 h2 => ?_⟩
  by_cases hi : i < k
  · rw [List.getElem?_take, if_pos hi] at h1 h2; exact h.2 i p r h1 h2
  · rw [List.getElem?_take, if_neg hi] at h1; cases h1
theorem DeepR.drop (h : DeepR w B qs l) (k : Nat) : DeepR w B (qs.drop k) (l.drop k) := by
  refine ⟨by rw [List.length_drop, List.length_drop, h.1], fun i p r h1 h2 => ?_⟩
  rw [List.getElem?_drop] at h1 h2
  exact h.2 _ p r h1 h2
theorem DeepR.set {p : Rs} {r : Rc} (h : DeepR w B qs l) (i : Nat) (h1 : p.seq = r.seq) (h2 : RdL w B p.row.val r.row) : DeepR w B (qs.set i p) (l.set i r) := by
  refine ⟨by rw [List.length_set, List.length_set, h.1], fun j p' r' hp hr => ?_⟩
  by_cases hj : i = j
  · subst hj
    have hi : i < qs.length := by have := (List.getElem?_eq_some_iff.1 hp).1; rwa [List.length_set] at this
    rw [List.getElem?_set_self hi] at hp
    rw [List.getElem?_set_self (by rw [← h.1]; exact hi)] at hr
    cases hp; cases hr; exact ⟨h1, h2⟩
  · rw [List.getElem?_set_ne hj] at hp hr
    exact h.2 j p' r' hp hr
theorem RdLL.nil (w : World) (B : Nat) : RdLL w B (.slice none 0 0) [] := ⟨[], RdV.nil _ _ _, DeepL.nil w B⟩
theorem RdLL.below (h : RdLL w B v ls) (hb : Below B w w') : RdLL w' B v ls := by
  obtain ⟨ps, h1, h2⟩ := h; exact ⟨ps, h1.below hb, h2.below hb⟩
theorem RdLL.more (h : RdLL w B v ls) (hB : B ≤ B') : RdLL w B' v ls := by
  obtain ⟨ps, h1, h2⟩ := h; exact ⟨ps, h1.more hB, h2.more hB⟩
theorem RdLL.step (h : RdLL w w.heap.size v ls) (hb : Below w.heap.size w w') : RdLL w' w'.heap.size v ls := (h.below hb).more hb.size
theorem RdR.nil (w : World) (B : Nat) : RdR w B (.slice none 0 0) [] := ⟨[], RdK.nil _ _ _, DeepR.nil w B⟩
theorem RdR.below (h : RdR w B v l) (hb : Below B w w') : RdR w' B v l := by
  obtain ⟨ps, h1, h2⟩ := h; exact ⟨ps, h1.below hb, h2.below hb⟩
theorem RdR.more (h : RdR w B v l) (hB : B ≤ B') : RdR w B' v l := by
  obtain ⟨ps, h1, h2⟩ := h; exact ⟨ps, h1.more hB, h2.more hB⟩
theorem RdR.step (h : RdR w w.heap.size v l) (hb : Below w.heap.size w w') : RdR w' w'.heap.size v l := (h.below hb).more hb.size
theorem RdR.bds (h : RdR w B v l) : ∃ A c n, v = .slice A n c ∧ n = l.length ∧ n ≤ c ∧ c ≤ 9223372036854775807 := by
  obtain ⟨ps, h1, h2⟩ := h
  obtain ⟨A, c, n, e, hn, h3, h4⟩ := h1.bds
  exact ⟨A, c, n, e, hn.trans h2.1, h3, h4⟩
/-- Record i: its number's cell, its row's cell, its row. -/
theorem RdR.at (h : RdR w B (.slice A n c) l) {r : Rc} (hr : l[i]? = some r) : ∃ ad rA rn rc, A = some ad ∧ ad.block < B ∧ w.cell? (ad.add (i * 2)) = some (.int .i64 r.seq) ∧ w.cell? ⟨(ad.add (i * 2)).block, (ad.add (i * 2)).off + 1, none⟩ = some (.slice rA rn rc) ∧ rn = r.row.length ∧ RdL w B (.slice rA rn rc) r.row := by
  obtain ⟨ps, h1, h2⟩ := h
  obtain ⟨⟨ps1, ⟨rA, rn, rc⟩⟩, hp, hs, hd⟩ := h2.get hr
  obtain ⟨ad, e, hb, ha⟩ := h1.at hp
  simp only at hs
  subst hs
  obtain ⟨_, _, _, e2, e3, _, _⟩ := hd.bds
  cases e2
  exact ⟨ad, rA, rn, rc, e, hb, ha.c0 rfl, ha.ck 1 (by decide) rfl, e3, hd⟩
end
end Go.RS
