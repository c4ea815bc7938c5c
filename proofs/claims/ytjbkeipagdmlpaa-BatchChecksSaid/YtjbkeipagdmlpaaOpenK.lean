/- Slices of structs that come in, at any depth: read at every index. -/
import Derived.Test.YtjbkeipagdmlpaaRcs
import Derived.Test.YtjbkeipagdmlpaaValV
namespace Go.MK
open Go.RowKit Go.VB Go.VS Go.ChangeShapes Go.WideShapes Go.ChangeAt Go.Deep
section
variable {H : Type} {enc : TypeId × Value → H} {P : Program} {w : World} {held : Bool} {α : Type}
/-- What is known of the elements and of their data, index by index. -/
def EachK (Q : α → DataW H → Prop) (l : List α) (d : DataW H) : Prop := (d = .nil ∧ l = []) ∨ ∃ (ds sp : List (DataW H)), d = .slice ds sp ∧ ds.length = l.length ∧ ∀ (i : Nat) (a : α) (x : DataW H), l[i]? = some a → ds[i]? = some x → Q a x
theorem open_rowK {t e : TypeId} {fuel : Nat} {cs : List Value} {x : DataW H × List MemPlace} (L : Lay α) (ht : P.underlying t = some (.slice e)) (hc : P.cellsOf e = L.K) (Q : α → DataW H → Prop)
    (helem : ∀ (n : Nat) (cs' : List Value) (y : DataW H × List MemPlace), DataW.trod enc P w 0 (fun _ => true) held n e cs' = some y → ∃ a, cs' = L.cs a ∧ Q a y.1)
    (h : DataW.trod enc P w 0 (fun _ => true) held fuel t cs = some x) : ∃ (l : List α) (v : Value), cs = [v] ∧ RdK L w w.heap.size v l ∧ EachK Q l x.1 := by
  rcases open_slice ht h with ⟨hcs, hx⟩ | ⟨a, len, cap, m, n', D, Pl, hcs, _, hl, hm, hmm, hdx, hx⟩
  · exact ⟨[], .slice none 0 0, hcs, RdK.nil _ _ _, Or.inl ⟨by rw [hx], rfl⟩⟩
  · simp only [if_true] at hmm
    subst hmm
    have hC : ∀ i, i < m → ∃ y : α, AtK L w a i y ∧ Q y (D i) := fun i hi => by
      obtain ⟨cs', h1, h2⟩ := hx i (by omega)
      rw [hc] at h1
      obtain ⟨_, hlen, hcl⟩ := World.cells?_some h1
      obtain ⟨y, hy, hq⟩ := helem n' cs' _ h2
      refine ⟨y, fun k u hu => ?_, hq⟩
      have hk : k < L.K := by rw [← L.len y]; exact (List.getElem?_eq_some_iff.1 hu).1
      have := hcl k hk
      rw [Go.Deep.add_add] at this
      rw [this, hy]; exact hu
    haveI : Inhabited α := ⟨L.z⟩
    obtain ⟨V, hV⟩ := choose_lt (α := α) (p := fun i y => AtK L w a i y ∧ Q y (D i)) hC
    refine ⟨(List.range len).map V, .slice (some a) len m, hcs, ⟨some a, m, by simp, by simpa using hl, hm, fun i y hi => ?_⟩, Or.inr ⟨_, _, by rw [hdx], by simp, fun i y d hi hd => ?_⟩⟩
    · have hil : i < len := by
        have := (List.getElem?_eq_some_iff.1 hi).1
        simpa using this
      rw [List.getElem?_map, List.getElem?_range hil] at hi
      simp only [Option.map_some, Option.some.injEq] at hi
      subst hi
      have h4 := (hV i (by omega)).1
      obtain ⟨u, hu⟩ : ∃ u, (L.cs (V i))[0]? = some u := ⟨_, List.getElem?_eq_getElem (by rw [L.len]; exact L.pos)⟩
      refine ⟨a, rfl, ?_, h4⟩
      have := World.block_lt_of_cell? w _ (h4.c0 hu)
      rw [Go.VB.block_add] at this; exact this
    · have hil : i < len := by
        have := (List.getElem?_eq_some_iff.1 hi).1
        simpa using this
      rw [List.getElem?_map, List.getElem?_range hil] at hi hd
      simp only [Option.map_some, Option.some.injEq] at hi hd
      subst hi hd
      exact (hV i (by omega)).2
end
/-- A value's layout. -/
def valL : Lay Vl where
  K := 3
  cs := Vl.cells
  len _ := rfl
  pos := by decide
  one x u hu := by
    simp only [Vl.cells, List.mem_cons, List.not_mem_nil, or_false] at hu
    rcases hu with rfl | rfl | rfl <;> rfl
  z := vl0
  zv := vl0.val
  zc := rfl
theorem rdL_of {w : World} {B : Nat} {v : Value} {l : List Vl} (h : RdK valL w B v l) : RdL w B v l := by
  obtain ⟨A, c, hv, hc, hm, hr⟩ := h
  refine ⟨A, c, hv, hc, hm, fun i x hi => ?_⟩
  obtain ⟨ad, h1, h2, h3⟩ := hr i x hi
  exact ⟨ad, h1, h2, ⟨h3.c0 rfl, h3.ck 1 (by decide) rfl, h3.ck 2 (by decide) rfl⟩⟩
/-- A slice's layout, as an element. -/
def slL : Lay Go.RS.Sl where
  K := 1
  cs s := [s.val]
  len _ := rfl
  pos := by decide
  one x u hu := by
    simp only [List.mem_cons, List.not_mem_nil, or_false] at hu
    rcases hu with rfl; rfl
  z := Go.RS.sl0
  zv := .slice none 0 0
  zc := rfl
theorem rdV_of {w : World} {B : Nat} {v : Value} {l : List Go.RS.Sl} (h : RdK slL w B v l) : RdV Go.RS.Sl.val w B v l := by
  obtain ⟨A, c, hv, hc, hm, hr⟩ := h
  refine ⟨A, c, hv, hc, hm, fun i x hi => ?_⟩
  obtain ⟨ad, h1, h2, h3⟩ := hr i x hi
  have := h3.c0 (u := x.val) rfl
  rw [show i * slL.K = i from Nat.mul_one i] at this
  exact ⟨ad, h1, h2, this⟩
end Go.MK
namespace Go.RS
open Go.RowKit Go.VB Go.VS Go.MK
theorem deepR_of {w : World} {B : Nat} {Pr : Rc → Prop} : ∀ (ps : List Rs), (∀ p ∈ ps, ∃ row, RdL w B p.row.val row ∧ Pr ⟨p.seq, row⟩) → ∃ l, DeepR w B ps l ∧ ∀ r ∈ l, Pr r
  | [], _ => ⟨[], DeepR.nil w B, fun r h => by simp at h⟩
  | p :: ps, h => by
    obtain ⟨l, h1, h2⟩ := deepR_of ps fun q hq => h q (List.mem_cons_of_mem _ hq)
    obtain ⟨row, h3, h4⟩ := h p (List.mem_cons_self ..)
    refine ⟨⟨p.seq, row⟩ :: l, (DeepR.one (r := ⟨p.seq, row⟩) rfl h3).app h1, fun r hr => ?_⟩
    rcases List.mem_cons.1 hr with rfl | hr
    · exact h4
    · exact h2 r hr
theorem deepL_of {w : World} {B : Nat} {Pr : List Vl → Prop} : ∀ (ps : List Sl), (∀ p ∈ ps, ∃ row, RdL w B p.val row ∧ Pr row) → ∃ ls, DeepL w B ps ls ∧ ∀ r ∈ ls, Pr r
  | [], _ => ⟨[], DeepL.nil w B, fun r h => by simp at h⟩
  | p :: ps, h => by
    obtain ⟨l, h1, h2⟩ := deepL_of ps fun q hq => h q (List.mem_cons_of_mem _ hq)
    obtain ⟨row, h3, h4⟩ := h p (List.mem_cons_self ..)
    refine ⟨row :: l, (DeepL.one h3).app h1, fun r hr => ?_⟩
    rcases List.mem_cons.1 hr with rfl | hr
    · exact h4
    · exact h2 r hr
end Go.RS
namespace Go.Proofs.Ytjbkeipagdmlpaa
open Go.RowKit Go.VB Go.VS Go.MK Go.RS Go.ChangeShapes Go.WideShapes Go.ChangeAt Go.Deep
set_option linter.constructorNameAsVariable false
section
variable {H : Type} {enc : TypeId × Value → H} {w : World} {held : Bool}
/-- A value's number is one, its text has a size. -/
def VlQ (x : Vl) (_ : DataW H) : Prop := (Lit.int .i64 x.n).wf = true ∧ x.s.size ≤ maxLen
theorem val_cells {n : Nat} {cs : List Value} {y : DataW H × List MemPlace} (h : DataW.trod enc Try.prog w 0 (fun _ => true) held n 32 cs = some y) : ∃ x : Vl, cs = x.cells ∧ VlQ x y.1 := by
  obtain ⟨xs, n2, _, _, hcl, hlen, hfs⟩ := DataW.trod_struct Try.underlying32 h
  rw [Try.cellsV3] at hcl
  match cs, hcl, hfs with
  | [d0, d1, d2], _, hfs =>
  match xs, hlen, hfs with
  | [z0, z1, z2], _, hfs =>
  obtain ⟨nu, e0, _⟩ := DataW.trod_bool Try.underlying4 (hfs 0 _ rfl)
  obtain ⟨nn, e1, _, w1⟩ := DataW.trod_int Try.underlying2 (hfs 1 _ rfl)
  obtain ⟨s, e2, _, w2⟩ := DataW.trod_string Try.underlying9 (hfs 2 _ rfl)
  simp [Try.cellsVI, Try.cellsVB, Try.cellsVS] at e0 e1 e2
  subst e0 e1 e2
  exact ⟨⟨nu, nn, s⟩, rfl, w1, w2⟩
/-- A slice of values, by its cell. -/
theorem vls_cells {n : Nat} {cs : List Value} {y : DataW H × List MemPlace} (h : DataW.trod enc Try.prog w 0 (fun _ => true) held n 36 cs = some y) : ∃ (l : List Vl) (v : Value), cs = [v] ∧ RdL w w.heap.size v l ∧ ∀ x ∈ l, (Lit.int .i64 x.n).wf = true ∧ x.s.size ≤ maxLen := by
  obtain ⟨l, v, h1, h2, h3⟩ := open_rowK valL Try.underlying36 Try.cellsV3 VlQ (fun n cs' y h => val_cells h) h
  refine ⟨l, v, h1, rdL_of h2, fun x hx => ?_⟩
  rcases h3 with ⟨_, rfl⟩ | ⟨ds, sp, _, hl, hq⟩
  · simp at hx
  · obtain ⟨i, hi, rfl⟩ := List.getElem_of_mem hx
    exact hq i _ ds[i] (List.getElem?_eq_getElem hi) (List.getElem?_eq_getElem (by rw [hl]; exact hi))
/-- A slice of slices of values, by its cell (written ahead of the first seat that has the type). -/
theorem lls_cells {n : Nat} {cs : List Value} {y : DataW H × List MemPlace} (h : DataW.trod enc Try.prog w 0 (fun _ => true) held n 29 cs = some y) : ∃ (ls : List (List Vl)) (v : Value), cs = [v] ∧ RdLL w w.heap.size v ls ∧ ∀ l ∈ ls, ∀ x ∈ l, (Lit.int .i64 x.n).wf = true ∧ x.s.size ≤ maxLen := by
  obtain ⟨ps, v, h1, h2, h3⟩ := open_rowK slL Try.underlying29 (show Try.prog.cellsOf 36 = 1 from by kernel_rfl) (fun p _ => ∃ l : List Vl, RdL w w.heap.size p.val l ∧ ∀ x ∈ l, (Lit.int .i64 x.n).wf = true ∧ x.s.size ≤ maxLen)
    (fun n cs' y h => by
      obtain ⟨l, v, e1, e2, e3⟩ := vls_cells h
      obtain ⟨A, c, k, rfl, _, _, _⟩ := e2.bds
      exact ⟨⟨A, k, c⟩, e1, l, e2, e3⟩) h
  have hall : ∀ p ∈ ps, ∃ l : List Vl, RdL w w.heap.size p.val l ∧ ∀ x ∈ l, (Lit.int .i64 x.n).wf = true ∧ x.s.size ≤ maxLen := fun p hp => by
    rcases h3 with ⟨_, rfl⟩ | ⟨ds, sp, _, hl, hq⟩
    · simp at hp
    · obtain ⟨i, hi, rfl⟩ := List.getElem_of_mem hp
      exact hq i _ ds[i] (List.getElem?_eq_getElem hi) (List.getElem?_eq_getElem (by rw [hl]; exact hi))
  obtain ⟨ls, h4, h5⟩ := deepL_of ps hall
  exact ⟨ls, v, h1, ⟨ps, rdV_of h2, h4⟩, h5⟩
/-- A slice of records, by its cell (written ahead of the first seat that has the type). -/
theorem recs_cells {n : Nat} {cs : List Value} {y : DataW H × List MemPlace} (h : DataW.trod enc Try.prog w 0 (fun _ => true) held n 24 cs = some y) : ∃ (l : List Rc) (v : Value), cs = [v] ∧ RdR w w.heap.size v l ∧ ∀ r ∈ l, (Lit.int .i64 r.seq).wf = true ∧ ∀ x ∈ r.row, (Lit.int .i64 x.n).wf = true ∧ x.s.size ≤ maxLen := by
  obtain ⟨ps, v, h1, h2, h3⟩ := open_rowK recL Try.underlying24 (show Try.prog.cellsOf 41 = 2 from by kernel_rfl) (fun p _ => ∃ l : List Vl, RdL w w.heap.size p.row.val l ∧ (Lit.int .i64 p.seq).wf = true ∧ ∀ x ∈ l, (Lit.int .i64 x.n).wf = true ∧ x.s.size ≤ maxLen)
    (fun n cs' y h => by
      obtain ⟨xs, n2, _, _, hcl, hlen, hfs⟩ := DataW.trod_struct Try.underlying41 h
      rw [show Try.prog.cellsOf 41 = 2 from by kernel_rfl] at hcl
      match cs', hcl, hfs with
      | [d0, d1], _, hfs =>
      match xs, hlen, hfs with
      | [z0, z1], _, hfs =>
      obtain ⟨nn, e0, _, w1⟩ := DataW.trod_int Try.underlying2 (hfs 0 _ rfl)
      obtain ⟨l, v, e1, e2, e3⟩ := vls_cells (hfs 1 _ rfl)
      obtain ⟨A, c, k, rfl, _, _, _⟩ := e2.bds
      simp [Try.cellsVI, show Try.prog.cellsOf 36 = 1 from by kernel_rfl] at e0 e1
      subst e0 e1
      exact ⟨⟨nn, ⟨A, k, c⟩⟩, rfl, l, e2, w1, e3⟩) h
  have hall : ∀ p ∈ ps, ∃ l : List Vl, RdL w w.heap.size p.row.val l ∧ ((Lit.int .i64 (⟨p.seq, l⟩ : Rc).seq).wf = true ∧ ∀ x ∈ (⟨p.seq, l⟩ : Rc).row, (Lit.int .i64 x.n).wf = true ∧ x.s.size ≤ maxLen) := fun p hp => by
    rcases h3 with ⟨_, rfl⟩ | ⟨ds, sp, _, hl, hq⟩
    · simp at hp
    · obtain ⟨i, hi, rfl⟩ := List.getElem_of_mem hp
      exact hq i _ ds[i] (List.getElem?_eq_getElem hi) (List.getElem?_eq_getElem (by rw [hl]; exact hi))
  obtain ⟨l, h4, h5⟩ := deepR_of (Pr := fun r => (Lit.int .i64 r.seq).wf = true ∧ ∀ x ∈ r.row, (Lit.int .i64 x.n).wf = true ∧ x.s.size ≤ maxLen) ps hall
  exact ⟨l, v, h1, ⟨ps, h2, h4⟩, h5⟩
end
end Go.Proofs.Ytjbkeipagdmlpaa
