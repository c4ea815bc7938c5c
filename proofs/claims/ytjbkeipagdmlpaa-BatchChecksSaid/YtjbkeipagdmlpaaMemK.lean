/- Rows of structs: elements of K cells each; what can be read, rows that a call owns, append, cuts, make, stores. -/
import Derived.Test.YtjbkeipagdmlpaaMemV
import Derived.Deep.Slices
import Derived.Deep.RegionLaw
namespace Go.MK
open Go.RowKit Go.VB
/-- How an element lies: its cells, K of them; z is the zero element. -/
structure Lay (α : Type) where
  K : Nat
  cs : α → List Value
  len : ∀ x, (cs x).length = K
  pos : 0 < K
  one : ∀ x, ∀ u ∈ cs x, u.oneCell' = true
  z : α
  zv : Value
  zc : zv.cells.toList = cs z
section
variable {α : Type} {L : Lay α}
theorem addr_addK (a : Addr) (i j : Nat) : (a.add i).add j = a.add (i + j) := by
  unfold Addr.add
  by_cases hi : i = 0
  · subst hi; simp
  · by_cases hj : j = 0
    · subst hj; simp [hi]
    · simp [hi, hj, Nat.add_assoc]
theorem at_offK (a : Addr) (n k : Nat) (hk : k ≠ 0) : a.add (n + k) = ⟨(a.add n).block, (a.add n).off + k, none⟩ := by
  rw [← addr_addK]
  show (a.add n).add k = _
  generalize a.add n = b
  unfold Addr.add
  rw [if_neg hk]
theorem addr0K (g n : Nat) : (⟨g, 0, none⟩ : Addr).add n = ⟨g, n, none⟩ := by
  unfold Addr.add
  by_cases h : n = 0
  · rw [if_pos h, h]
  · rw [if_neg h, Nat.zero_add]
/-- Element i of a row that begins at ad is x. -/
def AtK (L : Lay α) (w : World) (ad : Addr) (i : Nat) (x : α) : Prop := ∀ k u, (L.cs x)[k]? = some u → w.cell? (ad.add (i * L.K + k)) = some u
variable {w w' w0 : World} {B B' base c n k g i : Nat} {v : Value} {l m : List α} {e : TypeId} {A : Option Addr} {ad : Addr} {x : α} {u : Value}
theorem AtK.c0 (h : AtK L w ad i x) (hu : (L.cs x)[0]? = some u) : w.cell? (ad.add (i * L.K)) = some u := h 0 u hu
theorem AtK.ck (h : AtK L w ad i x) (k : Nat) (hk : k ≠ 0) (hu : (L.cs x)[k]? = some u) : w.cell? ⟨(ad.add (i * L.K)).block, (ad.add (i * L.K)).off + k, none⟩ = some u := by
  rw [← at_offK _ _ _ hk]; exact h k u hu
theorem AtK.below (h : AtK L w ad i x) (hb : Below B w w') (hB : ad.block < B) : AtK L w' ad i x := fun k u hu => by
  rw [hb.cell (by rw [block_add]; exact hB)]; exact h k u hu
theorem AtK.shift {j : Nat} (h : AtK L w ad (i + j) x) : AtK L w (ad.add (i * L.K)) j x := fun k u hu => by
  rw [addr_addK]
  have := h k u hu
  rwa [show i * L.K + (j * L.K + k) = (i + j) * L.K + k from by rw [Nat.add_mul]; omega]
/-- The slice v can be read and holds the elements l; it lies below block B. -/
def RdK (L : Lay α) (w : World) (B : Nat) (v : Value) (l : List α) : Prop :=
  ∃ A c, v = .slice A l.length c ∧ l.length ≤ c ∧ c ≤ maxLen ∧ ∀ i x, l[i]? = some x → ∃ ad, A = some ad ∧ ad.block < B ∧ AtK L w ad i x
theorem RdK.nil (L : Lay α) (w : World) (B : Nat) : RdK L w B (.slice none 0 0) [] := ⟨none, 0, rfl, Nat.le_refl _, Nat.zero_le _, fun i x hx => by simp at hx⟩
theorem RdK.below (h : RdK L w B v l) (hb : Below B w w') : RdK L w' B v l := by
  obtain ⟨A, c, hv, hc, hm, hr⟩ := h
  refine ⟨A, c, hv, hc, hm, fun i x hi => ?_⟩
  obtain ⟨ad, h1, h2, h3⟩ := hr i x hi
  exact ⟨ad, h1, h2, h3.below hb h2⟩
theorem RdK.more (h : RdK L w B v l) (hB : B ≤ B') : RdK L w B' v l := by
  obtain ⟨A, c, hv, hc, hm, hr⟩ := h
  refine ⟨A, c, hv, hc, hm, fun i x hi => ?_⟩
  obtain ⟨ad, h1, h2, h3⟩ := hr i x hi
  exact ⟨ad, h1, by omega, h3⟩
theorem RdK.step (h : RdK L w w.heap.size v l) (hb : Below w.heap.size w w') : RdK L w' w'.heap.size v l := (h.below hb).more hb.size
theorem RdK.at (h : RdK L w B (.slice A n c) l) (hx : l[i]? = some x) : ∃ ad, A = some ad ∧ ad.block < B ∧ AtK L w ad i x := by
  obtain ⟨A', c', hv, _, _, hr⟩ := h
  cases hv
  exact hr i x hx
theorem RdK.bds (h : RdK L w B v l) : ∃ A c n, v = .slice A n c ∧ n = l.length ∧ n ≤ c ∧ c ≤ 9223372036854775807 := by
  obtain ⟨A, c, rfl, h1, h2, _⟩ := h
  exact ⟨A, c, _, rfl, rfl, h1, h2⟩
/-- l[:k]. -/
theorem RdK.head (h : RdK L w B (.slice A n c) l) (hm : m = l.take m.length) (hl : m.length ≤ l.length) : RdK L w B (.slice A m.length c) m := by
  obtain ⟨A', c', hv, hc, hx, hr⟩ := h
  cases hv
  refine ⟨A, c, rfl, by omega, hx, fun i x hi => hr i x ?_⟩
  have hil : i < m.length := (List.getElem?_eq_some_iff.1 hi).1
  rw [hm, List.getElem?_take, if_pos hil] at hi
  exact hi
/-- l[i:], where the capacity does not end there. -/
theorem RdK.tail (h : RdK L w B (.slice (some ad) n c) l) (i : Nat) (hi : i ≤ l.length) : RdK L w B (.slice (some (ad.add (i * L.K))) (n - i) (c - i)) (l.drop i) := by
  obtain ⟨A', c', hv, hc, hm, hr⟩ := h
  cases hv
  refine ⟨_, c - i, by rw [List.length_drop], by rw [List.length_drop]; omega, by omega, fun j x hx => ⟨_, rfl, ?_⟩⟩
  rw [List.getElem?_drop] at hx
  obtain ⟨ad', h1, h2, h3⟩ := hr (i + j) x hx
  cases h1
  exact ⟨by rw [block_add]; exact h2, h3.shift⟩
/-- l[i:], where it does: the pointer stays. -/
theorem RdK.cutA (h : RdK L w B (.slice (some ad) n c) l) {i : Nat} (hc : c = i) : RdK L w B (.slice (some ad) (n - i) 0) (l.drop i) := by
  obtain ⟨A', c', hv, h1, h2, _⟩ := id h
  cases hv
  have : l.drop i = [] := List.drop_eq_nil_of_le (by omega)
  rw [this]
  exact ⟨_, _, by rw [show l.length - i = 0 from by omega]; rfl, by simp, by omega, fun _ _ hi => by simp at hi⟩
/-- l[i:] as the walk spells it. -/
theorem RdK.cutC (h : RdK L w B (.slice (some ad) n c) l) {i : Nat} (hi : i ≤ l.length) : RdK L w B (.slice (if c = i then some ad else some (ad.add (i * L.K))) (n - i) (c - i)) (l.drop i) := by
  by_cases hc : c = i
  · rw [if_pos hc, show c - i = 0 by omega]; exact h.cutA hc
  · rw [if_neg hc]; exact h.tail i hi
/-- The cells of elements, one after another. -/
def cellsK (L : Lay α) (l : List α) : List Value := l.flatMap L.cs
theorem cellsK_len : ∀ l : List α, (cellsK L l).length = l.length * L.K
  | [] => by simp [cellsK]
  | x :: r => by
    show (L.cs x ++ cellsK L r).length = _
    rw [List.length_append, cellsK_len r, List.length_cons, L.len, Nat.add_mul, Nat.one_mul, Nat.add_comm]
theorem cellsK_app (a b : List α) : cellsK L (a ++ b) = cellsK L a ++ cellsK L b := List.flatMap_append
theorem cellsK_get : ∀ (l : List α) (i k : Nat) (x : α), l[i]? = some x → k < L.K → (cellsK L l)[i * L.K + k]? = (L.cs x)[k]?
  | [], i, _, _, h, _ => by simp at h
  | y :: r, 0, k, x, h, hk => by
    simp at h; subst h
    show (L.cs y ++ cellsK L r)[0 * L.K + k]? = _
    rw [Nat.zero_mul, Nat.zero_add, List.getElem?_append_left (by rw [L.len]; exact hk)]
  | y :: r, i + 1, k, x, h, hk => by
    show (L.cs y ++ cellsK L r)[(i + 1) * L.K + k]? = _
    have e : (i + 1) * L.K + k = L.K + (i * L.K + k) := by rw [Nat.add_mul, Nat.one_mul]; omega
    rw [e, List.getElem?_append_right (by rw [L.len]; omega), L.len, Nat.add_sub_cancel_left, cellsK_get r i k x (by simpa using h) hk]
theorem cellsK_one (l : List α) : ∀ u ∈ cellsK L l, u.oneCell' = true := by
  intro u hu
  obtain ⟨x, _, hx⟩ := List.mem_flatMap.1 hu
  exact L.one x u hx
theorem cellsK_at {j : Nat} (hu : (cellsK L l)[j]? = some u) : ∃ x, l[j / L.K]? = some x ∧ (L.cs x)[j % L.K]? = some u := by
  have hj : j < (cellsK L l).length := (List.getElem?_eq_some_iff.1 hu).1
  rw [cellsK_len] at hj
  have hq : j / L.K < l.length := Nat.div_lt_of_lt_mul (by rw [Nat.mul_comm]; exact hj)
  have hx : l[j / L.K]? = some l[j / L.K] := List.getElem?_eq_getElem hq
  refine ⟨_, hx, ?_⟩
  have := cellsK_get l (j / L.K) (j % L.K) _ hx (Nat.mod_lt _ L.pos)
  rw [Nat.mul_comm, Nat.div_add_mod] at this
  rw [← this, hu]
theorem RdK.cells (h : RdK L w B (.slice (some ad) n c) l) : ∀ j u, (cellsK L l)[j]? = some u → w.cell? (ad.add j) = some u := fun j u hu => by
  obtain ⟨x, hx, hc⟩ := cellsK_at hu
  obtain ⟨_, e1, _, h3⟩ := h.at hx
  cases e1
  have := h3 _ _ hc
  rwa [Nat.mul_comm, Nat.div_add_mod] at this
/-- The slice v is the call's own and holds the elements l. -/
def OwnK (L : Lay α) (e : TypeId) (w : World) (base : Nat) (v : Value) (l : List α) : Prop := w.ownsRow base e L.K v l.length (cellsK L l)
/-- The slice that begins block g is the call's own and holds the elements l. -/
def RowK (L : Lay α) (e : TypeId) (w : World) (base g c : Nat) (l : List α) : Prop := OwnK L e w base (.slice (some ⟨g, 0, none⟩) l.length c) l
theorem OwnK.nil (L : Lay α) (e : TypeId) (w : World) (base : Nat) : OwnK L e w base (.slice none 0 0) [] := World.ownsRow_nil w base e L.K
theorem OwnK.alloc (h : OwnK L e w base v l) (o : Obj) : OwnK L e (w.alloc o) base v l := World.ownsRow.alloc h o
theorem OwnK.drew (h : OwnK L e w base v l) : OwnK L e w.drew base v l := h
theorem OwnK.lower (h : OwnK L e w base v l) {b' : Nat} (hb : b' ≤ base) : OwnK L e w b' v l := Joins.ownsRow_le h hb
theorem OwnK.lt (h : OwnK L e w base v l) : ∀ b, v.ownBlock = some b → base ≤ b ∧ b < w.heap.size := World.ownsRow.lt h
theorem OwnK.keep {row : Option Nat} (h : OwnK L e w base v l) (hg : w.grownBy w' row) (hne : v.ownBlock = none ∨ v.ownBlock ≠ row) : OwnK L e w' base v l := World.ownsRow.kept h hg hne
theorem OwnK.below (h : OwnK L e w base v l) (hb : Below w.heap.size w w') : OwnK L e w' base v l := by
  refine World.ownsRow.kept (row := none) h ⟨hb.os, hb.tape, hb.output, hb.size, fun b hlt _ => hb.block b hlt⟩ ?_
  rcases hv : v.ownBlock with _ | b
  · exact .inl rfl
  · exact .inr (by simp)
theorem OwnK.forms (h : OwnK L e w base v l) : (v = .slice none 0 0 ∧ l = []) ∨ ∃ g c, v = .slice (some ⟨g, 0, none⟩) l.length c ∧ RowK L e w base g c l := by
  rcases Joins.ownsRow_forms h with ⟨h1, h2⟩ | ⟨g, c, rfl⟩
  · exact .inl ⟨h1, List.eq_nil_of_length_eq_zero h2⟩
  · exact .inr ⟨g, c, rfl, h⟩
theorem OwnK.read (h : OwnK L e w base v l) : RdK L w w.heap.size v l := by
  have hlt := h.lt
  rcases h.2 with ⟨rfl, hn⟩ | ⟨g, c, cur, rfl, _, _, h3, h4, _⟩
  · have := List.eq_nil_of_length_eq_zero hn
    subst this
    exact RdK.nil _ _ _
  · refine ⟨some ⟨g, 0, none⟩, c, rfl, h3, h4, fun i x hx => ⟨_, rfl, (hlt g rfl).2, fun k u hu => ?_⟩⟩
    have hk : k < L.K := by rw [← L.len x]; exact (List.getElem?_eq_some_iff.1 hu).1
    exact World.ownsRow.cells h (g := g) rfl (i * L.K + k) u (by rw [cellsK_get l i k x hx hk]; exact hu)
theorem RowK.lt (h : RowK L e w base g c l) : base ≤ g ∧ g < w.heap.size := World.ownsRow.lt h g rfl
theorem RowK.own (h : RowK L e w base g c l) : OwnK L e w base (.slice (some ⟨g, 0, none⟩) l.length c) l := h
theorem RowK.own_at {l' : List α} (h : RowK L e w base g c l) (hl : l.length = n) (he : l = l') : OwnK L e w base (.slice (some ⟨g, 0, none⟩) n c) l' := by
  subst hl; subst he; exact h
theorem RowK.below (h : RowK L e w base g c l) (hb : Below w.heap.size w w') : RowK L e w' base g c l := OwnK.below h hb
theorem RowK.drew (h : RowK L e w base g c l) : RowK L e w.drew base g c l := h
theorem RowK.alloc (h : RowK L e w base g c l) (o : Obj) : RowK L e (w.alloc o) base g c l := OwnK.alloc h o
theorem RowK.other {b i : Nat} (h : RowK L e w base g c l) (hb : b ≠ g) (x : Value) : RowK L e (w.setCell ⟨b, i, none⟩ x) base g c l :=
  ownsRow_setCell_other h (a := ⟨b, i, none⟩) (fun e => hb (Option.some.inj e).symm) x
theorem RowK.frozen (h : RowK L e w base g c l) (j : Nat) : w.frozen? ⟨g, j, none⟩ = false := World.ownsRow.frozenAt h j
theorem RowK.at (h : RowK L e w base g c l) (hx : l[i]? = some x) (k : Nat) (hu : (L.cs x)[k]? = some u) : w.cell? ⟨g, i * L.K + k, none⟩ = some u := by
  obtain ⟨ad, h1, _, h3⟩ := (OwnK.read h).at hx
  cases h1
  have := h3 k u hu
  rwa [addr0K] at this
theorem cellsK_set : ∀ (l : List α) (i k : Nat) (y : Value) (x x' : α), l[i]? = some x → k < L.K → (L.cs x).set k y = L.cs x' → (cellsK L l).set (i * L.K + k) y = cellsK L (l.set i x')
  | [], _, _, _, _, _, h, _, _ => by simp at h
  | z :: r, 0, k, y, x, x', h, hk, he => by
    simp at h; subst h
    show (L.cs z ++ cellsK L r).set (0 * L.K + k) y = L.cs x' ++ cellsK L r
    rw [Nat.zero_mul, Nat.zero_add, List.set_append, if_pos (show k < (L.cs z).length from by rw [L.len]; exact hk), he]
  | z :: r, i + 1, k, y, x, x', h, hk, he => by
    show (L.cs z ++ cellsK L r).set ((i + 1) * L.K + k) y = L.cs z ++ cellsK L (r.set i x')
    have e : (i + 1) * L.K + k = L.K + (i * L.K + k) := by rw [Nat.add_mul, Nat.one_mul]; omega
    rw [e, List.set_append, if_neg (show ¬ L.K + (i * L.K + k) < (L.cs z).length from by rw [L.len]; omega), L.len, Nat.add_sub_cancel_left,
      cellsK_set r i k y x x' (by simpa using h) hk he]
/-- One cell of an element is stored. -/
theorem RowK.store (h : RowK L e w base g c l) (i k : Nat) (y : Value) {x x' : α} (hx : l[i]? = some x) (hk : k < L.K) (he : (L.cs x).set k y = L.cs x') : RowK L e (w.setCell ⟨g, i * L.K + k, none⟩ y) base g c (l.set i x') := by
  have h2 := (World.ownsRow.stored h (i * L.K + k) y).1
  unfold RowK OwnK
  rw [List.length_set, ← cellsK_set l i k y x x' hx hk he]
  exact h2
theorem madeK_cells (n : Nat) : (madeCells L.zv.cells (n * L.K)).toList = cellsK L (List.replicate n L.z) := by
  have hz : L.zv.cells.size = L.K := by rw [← L.len L.z, ← L.zc, Array.length_toList]
  apply List.ext_getElem?
  intro j
  by_cases hj : j < n * L.K
  · have hr : (List.replicate n L.z)[j / L.K]? = some L.z := by rw [List.getElem?_replicate, if_pos (Nat.div_lt_of_lt_mul (by rw [Nat.mul_comm]; exact hj))]
    have := cellsK_get (List.replicate n L.z) (j / L.K) (j % L.K) L.z hr (Nat.mod_lt _ L.pos)
    rw [Nat.mul_comm, Nat.div_add_mod] at this
    rw [this]
    unfold madeCells
    rw [Array.getElem?_toList, Array.getElem?_map, Array.getElem?_range, if_pos hj]
    have hb : j % L.K < L.zv.cells.size := by rw [hz]; exact Nat.mod_lt _ L.pos
    rw [Option.map_some, hz, ← L.zc, Array.getElem?_toList, getElem!_pos L.zv.cells (j % L.K) hb, Array.getElem?_eq_getElem hb]
  · rw [List.getElem?_eq_none (by rw [Array.length_toList, size_madeCells]; omega), List.getElem?_eq_none (by rw [cellsK_len, List.length_replicate]; omega)]
theorem RowK.made (L : Lay α) (e : TypeId) (w : World) (base n : Nat) (hb : base ≤ w.heap.size) (hm : n ≤ maxLen) :
    RowK L e (w.alloc (.cells (madeCells L.zv.cells (n * L.K)) e)) base w.heap.size n (List.replicate n L.z) := by
  have := World.ownsRow_lit (base := base) (e := e) (size := L.K) w (madeCells L.zv.cells (n * L.K)) n hb hm (by rw [size_madeCells])
  rw [madeK_cells] at this
  unfold RowK OwnK
  rw [List.length_replicate]
  exact this
theorem OwnK.made0 (L : Lay α) (e : TypeId) (w : World) (base n : Nat) (hb : base ≤ w.heap.size) (hm : n ≤ maxLen) :
    OwnK L e (w.alloc (.cells (madeCells L.zv.cells (n * L.K)) e)) base (.slice (some ⟨w.heap.size, 0, none⟩) 0 n) [] :=
  World.ownsRow_made w _ n hb hm (by rw [size_madeCells])
/-- A row that was just laid out is the call's own. -/
theorem RowK.laid (w : World) (l : List α) (base : Nat) (e : TypeId) (hb : base ≤ w.heap.size) (hm : l.length ≤ maxLen) : RowK L e (w.alloc (.cells (cellsK L l).toArray e)) base w.heap.size l.length l := by
  have := World.ownsRow_lit (base := base) (e := e) (size := L.K) w (cellsK L l).toArray l.length hb hm (by rw [List.size_toArray, cellsK_len])
  rw [List.toList_toArray] at this
  exact this
/-- A row that was just laid out. -/
theorem RdK.lit (w : World) (l : List α) (m : Nat) (e : TypeId) (hm : l.length ≤ m) (hm2 : m ≤ maxLen) : RdK L (w.alloc (.cells (cellsK L l).toArray e)) (w.heap.size + 1) (.slice (some ⟨w.heap.size, 0, none⟩) l.length m) l := by
  refine ⟨_, m, rfl, hm, hm2, fun i x hx => ⟨_, rfl, Nat.lt_succ_self _, fun k u hu => ?_⟩⟩
  have hk : k < L.K := by rw [← L.len x]; exact (List.getElem?_eq_some_iff.1 hu).1
  rw [addr0K, World.cell?_alloc_new]
  have := cellsK_get l i k x hx hk
  simp only [List.getElem?_toArray]
  rw [this, hu]
/-- Cells stored one behind the other. -/
def putC : World → Nat → Nat → List Value → World
  | w, _, _, [] => w
  | w, g, o, u :: r => putC (w.setCell ⟨g, o, none⟩ u) g (o + 1) r
def setL : List Value → Nat → List Value → List Value
  | xs, _, [] => xs
  | xs, o, u :: r => setL (xs.set o u) (o + 1) r
theorem setL_get : ∀ (us xs : List Value) (o j : Nat), (setL xs o us)[j]? = if o ≤ j ∧ j < o + us.length ∧ j < xs.length then us[j - o]? else xs[j]?
  | [], xs, o, j => by
    show xs[j]? = _
    rw [if_neg (by simp only [List.length_nil]; omega)]
  | u :: r, xs, o, j => by
    show (setL (xs.set o u) (o + 1) r)[j]? = _
    rw [setL_get r (xs.set o u) (o + 1) j, List.length_set]
    by_cases h1 : o + 1 ≤ j ∧ j < o + 1 + r.length ∧ j < xs.length
    · rw [if_pos h1, if_pos (by simp only [List.length_cons]; omega), show j - o = j - (o + 1) + 1 from by omega, List.getElem?_cons_succ]
    · rw [if_neg h1]
      by_cases h2 : o = j
      · subst h2
        by_cases h3 : o < xs.length
        · rw [if_pos (by simp only [List.length_cons]; omega), List.getElem?_set_self h3, Nat.sub_self, List.getElem?_cons_zero]
        · rw [if_neg (by omega), List.getElem?_eq_none (by rw [List.length_set]; omega), List.getElem?_eq_none (by omega)]
      · rw [List.getElem?_set_ne h2]
        by_cases h3 : o ≤ j ∧ j < o + (u :: r).length ∧ j < xs.length
        · simp only [List.length_cons] at h3; omega
        · rw [if_neg h3]
theorem own_putC {size : Nat} : ∀ (us xs : List Value) (o : Nat) {w : World}, w.ownsRow base e size (.slice (some ⟨g, 0, none⟩) n c) n xs → (putC w g o us).ownsRow base e size (.slice (some ⟨g, 0, none⟩) n c) n (setL xs o us)
  | [], _, _, _, h => h
  | u :: r, xs, o, _, h => own_putC r (xs.set o u) (o + 1) (World.ownsRow.stored h o u).1
theorem cellsK_put {i : Nat} (hi : i < l.length) (x' : α) : setL (cellsK L l) (i * L.K) (L.cs x') = cellsK L (l.set i x') := by
  apply List.ext_getElem?
  intro j
  rw [setL_get, L.len, cellsK_len]
  have hle : (i + 1) * L.K ≤ l.length * L.K := Nat.mul_le_mul_right _ hi
  rw [Nat.add_mul, Nat.one_mul] at hle
  by_cases hj : j < l.length * L.K
  · have hq : j / L.K < l.length := Nat.div_lt_of_lt_mul (by rw [Nat.mul_comm]; exact hj)
    have hm := Nat.mod_lt j L.pos
    have hd := Nat.div_add_mod j L.K
    have key : ∀ (l' : List α) (y : α), l'[j / L.K]? = some y → (cellsK L l')[j]? = (L.cs y)[j % L.K]? := fun l' y hy => by
      have := cellsK_get l' (j / L.K) (j % L.K) y hy hm
      rwa [Nat.mul_comm, hd] at this
    by_cases he : j / L.K = i
    · have hji : j = i * L.K + j % L.K := by rw [← he, Nat.mul_comm]; exact hd.symm
      rw [if_pos (by omega), key (l.set i x') x' (by rw [he, List.getElem?_set_self hi]), show j - i * L.K = j % L.K from by omega]
    · have hn : ¬ (i * L.K ≤ j ∧ j < i * L.K + L.K ∧ j < l.length * L.K) := by
        rintro ⟨h1, h2, _⟩
        refine he ?_
        have h4 : j - i * L.K < L.K := by omega
        have e1 : j = L.K * i + (j - i * L.K) := by have := Nat.mul_comm L.K i; omega
        rw [e1, Nat.mul_add_div L.pos, Nat.div_eq_of_lt h4, Nat.add_zero]
      rw [if_neg hn, key l l[j / L.K] (List.getElem?_eq_getElem hq), key (l.set i x') l[j / L.K] (by rw [List.getElem?_set_ne (fun e => he e.symm)]; exact List.getElem?_eq_getElem hq)]
  · rw [if_neg (by omega), List.getElem?_eq_none (by rw [cellsK_len]; omega), List.getElem?_eq_none (by rw [cellsK_len, List.length_set]; omega)]
/-- A whole element is stored. -/
theorem RowK.put (h : RowK L e w base g c l) (i : Nat) (hi : i < l.length) (x' : α) : RowK L e (putC w g (i * L.K) (L.cs x')) base g c (l.set i x') := by
  have h2 := own_putC (L.cs x') (cellsK L l) (i * L.K) h
  rw [cellsK_put hi] at h2
  unfold RowK OwnK
  rw [List.length_set]
  exact h2
theorem putC_below : ∀ (us : List Value) (o : Nat) {w : World}, Below B w0 w → B ≤ g → Below B w0 (putC w g o us)
  | [], _, _, h, _ => h
  | _ :: r, o, _, h, hB => putC_below r (o + 1) (h.setCell (p := ⟨_, o, none⟩) hB _) hB
theorem fillK_snoc {b : α} {t : List α} {n j : Nat} {x : α} (ht : t = l ++ List.replicate (n - j) b) (hl : l.length = j) (hj : j < n) : t.set j x = (l ++ [x]) ++ List.replicate (n - (j + 1)) b := by
  subst ht; subst hl
  rw [List.set_append_right _ _ (Nat.le_refl _), Nat.sub_self]
  obtain ⟨d, hd⟩ : ∃ d, n - l.length = d + 1 := ⟨n - l.length - 1, by omega⟩
  rw [hd, show n - (l.length + 1) = d from by omega, List.replicate_succ, List.set_cons_zero, List.append_assoc]; rfl
theorem zsize : L.zv.cells.size = L.K := by rw [← L.len L.z, ← L.zc, Array.length_toList]
section
variable {P : Program}
/-- append(s, x...) of elements onto a row of the call's own: the run. -/
theorem run_appK {a : Act} {o : Oper} (s x : Operand) (t : TypeId) (hop : o.op = Op.call { callee := Callee.builtin Builtin.append, args := #[s, x], argTypes := #[t, t] }) (base : Nat) (e : TypeId) (bytes : Nat)
    (ht : P.underlying t = some (.slice e)) (hinfo : (P.info? e).map (fun i => (i.zero, i.size, i.bytes)) = some (some L.zv, L.K, bytes))
    (v : Value) (l : List α) (hs : a.eval s = v) (hown : OwnK L e w base v l) (B : Nat) (vx : Value) (m : List α) (hx : a.eval x = vx) (hr : RdK L w B vx m)
    (hlen : l.length + m.length ≤ maxLen) (hbytes : (l.length + m.length) * bytes ≤ 140737488355328) (hbase : base ≤ w.heap.size) {K : Act → World → Prop} {Q : Exit → Act → World → Prop}
    (hK : ∀ v' w', OwnK L e w' base v' (l ++ m) → Below base w w' → w.grownBy w' v.ownBlock → K (a.put o.dst v') w') : Oper.wp P o a w K Q := by
  obtain ⟨i, hi, hz, hsz, hby⟩ := info_parts hinfo
  obtain ⟨A, c, rfl, hc, hm, hcell⟩ := id hr
  rcases A with _ | ad
  · have hm' : m = [] := by
      cases m with
      | nil => rfl
      | cons y m => obtain ⟨ad, h1, _⟩ := hcell 0 y rfl; cases h1
    subst hm'
    have hrun : (Builtin.append_ #[t, t] o.type #[v, .slice none 0 c]).run P w = .ok v w := by
      rcases hown.2 with ⟨rfl, _⟩ | ⟨g, cap, cur, rfl, _, _, hnc, _⟩
      · simp [Builtin.append_, run_underlying ht, sizeOf, typeInfo, hi, Builtin.lenOf, Builtin.firstCells]
      · simp [Builtin.append_, run_underlying ht, sizeOf, typeInfo, hi, Builtin.lenOf, Builtin.firstCells, hnc, storeCells]
    unfold Oper.wp
    simp [execOp, hop, resolve, invoke, builtin, hs, hx, hrun, Result.andThen]
    refine hK v w ?_ (Below.refl _ _) (World.grownBy.refl w _)
    rw [List.append_nil]; exact hown
  · obtain ⟨v', w', hrun, r1, r2, _⟩ := run_append_own (P := P) w base t o.type e i L.zv L.K bytes ht hi hz hsz hby zsize L.pos v l.length (cellsK L l) hown ad m.length c (cellsK L m) (cellsK_len m) hr.cells (cellsK_one m) hlen hbytes hbase
    unfold Oper.wp
    simp [execOp, hop, resolve, invoke, builtin, hs, hx, hrun, Result.andThen]
    refine hK v' w' ?_ ((Below.refl _ _).grown r2 hbase (fun b hb => (OwnK.lt hown b hb).1)) r2
    unfold OwnK
    rw [List.length_append, cellsK_app]; exact r1
/-- The same in a walk. -/
theorem wpl_appK {ops : Array Oper} {rest : List Oper} {o : Oper} {a : Act} {Q : Exit → Act → World → Prop} (hgd : o.guard = none) (s x : Operand) (t : TypeId)
    (ho : o.op = .call { callee := .builtin .append, args := #[s, x], argTypes := #[t, t] }) (base : Nat) (e : TypeId) (bytes : Nat) (ht : P.underlying t = some (.slice e)) (hinfo : (P.info? e).map (fun i => (i.zero, i.size, i.bytes)) = some (some L.zv, L.K, bytes))
    (v : Value) (l : List α) (hs : a.eval s = v) (hown : OwnK L e w base v l) (B : Nat) (vx : Value) (m : List α) (hx : a.eval x = vx) (hr : RdK L w B vx m)
    (hlen : l.length + m.length ≤ maxLen) (hbytes : (l.length + m.length) * bytes ≤ 140737488355328) (hbase : base ≤ w.heap.size)
    (h : ∀ v' w', OwnK L e w' base v' (l ++ m) → Below base w w' → w.grownBy w' v.ownBlock → wpList P ops Q rest (a.put o.dst v') w') : wpList P ops Q (o :: rest) a w :=
  wpList_plain hgd fun _ hK => run_appK s x t ho base e bytes ht hinfo v l hs hown B vx m hx hr hlen hbytes hbase fun v' w' h1 h2 h3 => hK _ _ (h v' w' h1 h2 h3)
/-- The same as one step of a region that draws. -/
theorem step_appK {ops : Array Oper} {o : Oper} {a : Act} {K : Act → World → Prop} {Q : Exit → Act → World → Prop} {E : Prop} (hg : o.guard = none) (s x : Operand) (t : TypeId)
    (hop : o.op = Op.call { callee := Callee.builtin Builtin.append, args := #[s, x], argTypes := #[t, t] }) (base : Nat) (e : TypeId) (bytes : Nat) (ht : P.underlying t = some (.slice e)) (hinfo : (P.info? e).map (fun i => (i.zero, i.size, i.bytes)) = some (some L.zv, L.K, bytes))
    (v : Value) (l : List α) (hs : a.eval s = v) (hown : OwnK L e w base v l) (B : Nat) (vx : Value) (m : List α) (hx : a.eval x = vx) (hr : RdK L w B vx m)
    (hlen : l.length + m.length ≤ maxLen) (hbytes : (l.length + m.length) * bytes ≤ 140737488355328) (hbase : base ≤ w.heap.size)
    (hK : ∀ v' w', OwnK L e w' base v' (l ++ m) → Below base w w' → w.grownBy w' v.ownBlock → K (a.put o.dst v') w') : if Region.wanted o (yielded ops a.tmps) = true then Oper.wp P o a w K Q else E := by
  have hw : Region.wanted o (yielded ops a.tmps) = true := by simp [Region.wanted, hg]
  rw [if_pos hw]
  exact run_appK s x t hop base e bytes ht hinfo v l hs hown B vx m hx hr hlen hbytes hbase hK
/-- make([]T, n). -/
theorem run_makeK {t e : TypeId} {bytes : Nat} (ht : P.underlying t = some (.slice e)) (hinfo : (P.info? e).map (fun i => (i.zero, i.size, i.bytes)) = some (some L.zv, L.K, bytes)) (n : Nat) (hb : bytes * n ≤ 281474976710656) (hm : n ≤ maxLen) (w : World) :
    (Instr.makeSlice t (.int .i64 (n : Int)) (.int .i64 (n : Int))).run P w = .ok (.slice (some ⟨w.heap.size, 0, none⟩) n n) (w.alloc (.cells (madeCells L.zv.cells (n * L.K)) e)) := by
  obtain ⟨i, hi, hz, hsz, hby⟩ := info_parts hinfo
  unfold maxLen at hm
  have h := run_make (P := P) w t e i L.zv ht hi hz .i64 .i64 n n (by omega) (Int.le_refl _) (by rw [hby, ← Int.natCast_mul]; omega) (by omega)
  rw [Int.toNat_natCast, hsz] at h
  exact h
/-- make([]T, 0, n). -/
theorem run_makeK0 {t e : TypeId} {bytes : Nat} (ht : P.underlying t = some (.slice e)) (hinfo : (P.info? e).map (fun i => (i.zero, i.size, i.bytes)) = some (some L.zv, L.K, bytes)) (n : Nat) (hb : bytes * n ≤ 281474976710656) (hm : n ≤ maxLen) (w : World) :
    (Instr.makeSlice t (.int .i64 0) (.int .i64 (n : Int))).run P w = .ok (.slice (some ⟨w.heap.size, 0, none⟩) 0 n) (w.alloc (.cells (madeCells L.zv.cells (n * L.K)) e)) := by
  obtain ⟨i, hi, hz, hsz, hby⟩ := info_parts hinfo
  unfold maxLen at hm
  have h := run_make (P := P) w t e i L.zv ht hi hz .i64 .i64 0 n (by omega) (by omega) (by rw [hby, ← Int.natCast_mul]; omega) (by omega)
  rw [Int.toNat_natCast, hsz] at h
  exact h
end
end
end Go.MK
