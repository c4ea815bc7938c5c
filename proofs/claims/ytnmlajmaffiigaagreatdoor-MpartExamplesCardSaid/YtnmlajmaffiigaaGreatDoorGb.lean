/- Ranks of records and their order; parts of a list; columns of records. -/
import Derived.Test.YtnmlajmaffiigaaGreatDoorGl
import Derived.Test.YtnmlajmaffiigaaGreatDoorGm
import Derived.Test.YtnmlajmaffiigaaGreatDoorGx
import Derived.Test.YtnmlajmaffiigaaGreatDoorGs
import Derived.Test.YtnmlajmaffiigaaGreatDoorGw
import Derived.Test.YtnmlajmaffiigaaGreatDoorGa
namespace Go.RS
open Go.RowKit Go.VB Go.VS Go.VL Go.ST
/-- What Compare finds of two ranks. -/
def cmpR (ty : Int) (a : Vl) (s : Int) (b : Vl) (t : Int) : Int := if cmp ty a.nu a.n a.s b.nu b.n b.s ≠ 0 then cmp ty a.nu a.n a.s b.nu b.n b.s else cmpI s t
/-- The key's value of a record. -/
def keyV (k : Nat) (r : Rc) : Vl := r.row.getD k vl0
/-- What Compare finds of the ranks of two records. -/
def cmpRec (ty : Int) (k : Nat) (a b : Rc) : Int := cmpR ty (keyV k a) a.seq (keyV k b) b.seq
section
variable {α : Type}
end
/-- Column c of records. -/
def colL (c : Nat) (l : List Rc) : List Vl := l.map fun r => r.row.getD c ⟨true, 0, ⟨#[]⟩⟩
end Go.RS

namespace Go.RS
open Go.RowKit Go.VB Go.VS Go.VL Go.SC Go.CK Go.ST Go.MK
/-- The first of the codes that is not 0. -/
def fe : List Nat → Nat
  | [] => 0
  | e :: r => if e = 0 then fe r else e
theorem fe_hit : ∀ {l : List Nat} {j e : Nat}, l[j]? = some e → (∀ k, k < j → l[k]? = some 0) → ¬ e = 0 → fe l = e
  | [], j, e, h, _, _ => by simp at h
  | x :: r, 0, e, h, _, h0 => by
    simp at h; subst h
    show (if x = 0 then fe r else x) = x
    rw [if_neg h0]
  | x :: r, j + 1, e, h, h1, h0 => by
    have hx := h1 0 (by omega)
    simp at hx; subst hx
    show (if 0 = 0 then fe r else 0) = e
    rw [if_pos rfl]
    exact fe_hit (by simpa using h) (fun k hk => by have := h1 (k + 1) (by omega); simpa using this) h0
theorem fe_none : ∀ {l : List Nat}, (∀ e ∈ l, e = 0) → fe l = 0
  | [], _ => rfl
  | x :: r, h => by
    show (if x = 0 then fe r else x) = 0
    rw [if_pos (h x (List.mem_cons_self ..)), fe_none fun e he => h e (List.mem_cons_of_mem _ he)]
theorem fe_zero : ∀ {l : List Nat}, fe l = 0 → ∀ e ∈ l, e = 0
  | [], _, e, he => by simp at he
  | x :: r, h, e, he => by
    have h' : (if x = 0 then fe r else x) = 0 := h
    by_cases h0 : x = 0
    · rw [if_pos h0] at h'
      rcases List.mem_cons.1 he with rfl | he
      · exact h0
      · exact fe_zero h' e he
    · rw [if_neg h0] at h'; exact absurd h' h0
/-- What the check of a row finds. -/
def chkRow (cs : List Col) (l : List Vl) : Nat := if l.length = cs.length then fe ((List.range l.length).map fun i => chkV (cs.getD i col0).ty (cs.getD i col0).nu (l.getD i vl0)) else 1
theorem chkRow_len {cs : List Col} {l : List Vl} (h : ¬ l.length = cs.length) : chkRow cs l = 1 := if_neg h
theorem chkRow_hit {cs : List Col} {l : List Vl} {j : Nat} {x : Vl} (h : l.length = cs.length) (hx : l[j]? = some x) (h1 : ∀ (k : Nat) (y : Vl), k < j → l[k]? = some y → chkV (cs.getD k col0).ty (cs.getD k col0).nu y = 0)
    (h0 : ¬ chkV (cs.getD j col0).ty (cs.getD j col0).nu x = 0) : chkRow cs l = chkV (cs.getD j col0).ty (cs.getD j col0).nu x := by
  unfold chkRow
  rw [if_pos h]
  have hj : j < l.length := (List.getElem?_eq_some_iff.1 hx).1
  have hget : ∀ k y, l[k]? = some y → l.getD k vl0 = y := fun k y hy => by rw [List.getD_eq_getElem?_getD, hy]; rfl
  refine fe_hit (j := j) ?_ (fun k hk => ?_) h0
  · rw [List.getElem?_map, List.getElem?_range hj, Option.map_some, hget j x hx]
  · have hkl : k < l.length := by omega
    rw [List.getElem?_map, List.getElem?_range hkl, Option.map_some, hget k l[k] (List.getElem?_eq_getElem hkl), h1 k _ hk (List.getElem?_eq_getElem hkl)]
theorem chkRow_none {cs : List Col} {l : List Vl} (h : l.length = cs.length) (h1 : ∀ (k : Nat) (y : Vl), l[k]? = some y → chkV (cs.getD k col0).ty (cs.getD k col0).nu y = 0) : chkRow cs l = 0 := by
  unfold chkRow
  rw [if_pos h]
  refine fe_none fun e he => ?_
  obtain ⟨k, hk, rfl⟩ := List.mem_map.1 he
  have hkl : k < l.length := List.mem_range.1 hk
  have : l.getD k vl0 = l[k] := by rw [List.getD_eq_getElem?_getD, List.getElem?_eq_getElem hkl]; rfl
  rw [this]
  exact h1 k _ (List.getElem?_eq_getElem hkl)
theorem chkRow_zero {cs : List Col} {l : List Vl} (h : chkRow cs l = 0) : l.length = cs.length := by
  unfold chkRow at h
  by_cases hl : l.length = cs.length
  · exact hl
  · rw [if_neg hl] at h; cases h
/-- A valid record. -/
def okRec (cs : List Col) (r : Rc) : Bool := decide (0 ≤ r.seq ∧ r.seq ≤ 1099511627776 ∧ chkRow cs r.row = 0)
/-- The schema and the records are valid. -/
def valR (cs : List Col) (key : Int) (l : List Rc) : Bool := decide (chkS cs key = 0) && l.all (okRec cs)
theorem valR_sch {cs : List Col} {key : Int} {l : List Rc} (h : ¬ chkS cs key = 0) : valR cs key l = false := by unfold valR; rw [decide_eq_false h]; rfl
theorem valR_bad {cs : List Col} {key : Int} {l : List Rc} {j : Nat} {r : Rc} (hr : l[j]? = some r) (h : okRec cs r = false) : valR cs key l = false := by
  have : l.all (okRec cs) = false := by
    rw [List.all_eq_false]
    exact ⟨r, List.mem_of_getElem? hr, by rw [h]; decide⟩
  unfold valR
  rw [this, Bool.and_false]
theorem valR_ok {cs : List Col} {key : Int} {l : List Rc} (h : chkS cs key = 0) (h1 : ∀ (k : Nat) (r : Rc), l[k]? = some r → okRec cs r = true) : valR cs key l = true := by
  unfold valR
  rw [decide_eq_true h, Bool.true_and, List.all_eq_true]
  intro r hr
  obtain ⟨k, hk, rfl⟩ := List.mem_iff_getElem.1 hr
  exact h1 k _ (List.getElem?_eq_getElem hk)
theorem valR_sound {cs : List Col} {key : Int} {l : List Rc} (h : valR cs key l = true) : chkS cs key = 0 ∧ ∀ r ∈ l, okRec cs r = true := by
  unfold valR at h
  obtain ⟨h1, h2⟩ := Bool.and_eq_true_iff.1 h
  exact ⟨of_decide_eq_true h1, List.all_eq_true.1 h2⟩
theorem okRec_lo {cs : List Col} {r : Rc} (h : r.seq < 0) : okRec cs r = false := decide_eq_false (by rintro ⟨h1, _⟩; omega)
theorem okRec_hi {cs : List Col} {r : Rc} (h : 1099511627776 < r.seq) : okRec cs r = false := decide_eq_false (by rintro ⟨_, h1, _⟩; omega)
theorem okRec_row {cs : List Col} {r : Rc} (h : ¬ chkRow cs r.row = 0) : okRec cs r = false := decide_eq_false (by rintro ⟨_, _, h1⟩; exact h h1)
theorem okRec_ok {cs : List Col} {r : Rc} (h1 : ¬ r.seq < 0) (h2 : ¬ 1099511627776 < r.seq) (h3 : chkRow cs r.row = 0) : okRec cs r = true := decide_eq_true ⟨by omega, by omega, h3⟩
theorem okRec_sound {cs : List Col} {r : Rc} (h : okRec cs r = true) : 0 ≤ r.seq ∧ r.seq ≤ 1099511627776 ∧ r.row.length = cs.length := by
  have := of_decide_eq_true h
  exact ⟨this.1, this.2.1, chkRow_zero this.2.2⟩
/-- The type of the key's column. -/
def keyT (cs : List Col) (key : Int) : Int := (cs.getD key.toNat col0).ty
/-- Each record's rank is less than the next one's. -/
def ascR (ty : Int) (k : Nat) (l : List Rc) : Bool := (List.range l.length).all fun i => match l[i]?, l[i + 1]? with
  | some a, some b => decide (cmpRec ty k a b < 0)
  | _, _ => true
theorem ascR_bad {ty : Int} {k : Nat} {l : List Rc} {i : Nat} {a b : Rc} (ha : l[i]? = some a) (hb : l[i + 1]? = some b) (h : 0 ≤ cmpRec ty k a b) : ascR ty k l = false := by
  unfold ascR
  rw [List.all_eq_false]
  refine ⟨i, List.mem_range.2 (List.getElem?_eq_some_iff.1 ha).1, ?_⟩
  rw [ha, hb]
  simpa using h
theorem ascR_ok {ty : Int} {k : Nat} {l : List Rc} (h : ∀ (i : Nat) (a b : Rc), l[i]? = some a → l[i + 1]? = some b → cmpRec ty k a b < 0) : ascR ty k l = true := by
  unfold ascR
  rw [List.all_eq_true]
  intro i _
  cases ha : l[i]? with
  | none => rfl
  | some a =>
    cases hb : l[i + 1]? with
    | none => rfl
    | some b => exact decide_eq_true (h i a b ha hb)
theorem ascR_sound {ty : Int} {k : Nat} {l : List Rc} (h : ascR ty k l = true) : ∀ (i : Nat) (a b : Rc), l[i]? = some a → l[i + 1]? = some b → cmpRec ty k a b < 0 := by
  intro i a b ha hb
  unfold ascR at h
  have := List.all_eq_true.1 h i (List.mem_range.2 (List.getElem?_eq_some_iff.1 ha).1)
  rw [ha, hb] at this
  exact of_decide_eq_true this
/-- The records are valid and sorted. -/
def srtdB (cs : List Col) (key : Int) (l : List Rc) : Bool := valR cs key l && ascR (keyT cs key) key.toNat l
theorem srtdB_inv {cs : List Col} {key : Int} {l : List Rc} (h : valR cs key l = false) : srtdB cs key l = false := by unfold srtdB; rw [h]; rfl
theorem srtdB_val {cs : List Col} {key : Int} {l : List Rc} (h : valR cs key l = true) : srtdB cs key l = ascR (keyT cs key) key.toNat l := by unfold srtdB; rw [h]; rfl
theorem keyV_at {k : Nat} {r : Rc} {x : Vl} (h : r.row[k]? = some x) : keyV k r = x := by unfold keyV; rw [List.getD_eq_getElem?_getD, h]; rfl
end Go.RS

namespace Go.MK
open Go.RowKit Go.VB Go.VS Go.ChangeShapes Go.WideShapes Go.ChangeAt Go.Deep
section
variable {H : Type} {enc : TypeId × Value → H} {P : Program} {w : World} {held : Bool} {α : Type}
end
/-- A value's layout. -/
def valL : Lay Vl where
  K := 3
  cs := Vl.cells
  len _ := rfl
  pos := by decide
  one x u hu := by
    simp only [Vl.cells, List.mem_cons, List.not_mem_nil, or_false] at hu
    rcases hu with rfl | rfl | rfl <;> rfl
  z := vl0
  zv := vl0.val
  zc := rfl
end Go.MK
namespace Go.RS
open Go.RowKit Go.VB Go.VS Go.MK
end Go.RS
namespace Go.Proofs.YtnmlajmaffiigaaGreatDoor
open Go.RowKit Go.VB Go.VS Go.MK Go.RS Go.ChangeShapes Go.WideShapes Go.ChangeAt Go.Deep
set_option linter.constructorNameAsVariable false
section
variable {H : Type} {enc : TypeId × Value → H} {w : World} {held : Bool}
end
end Go.Proofs.YtnmlajmaffiigaaGreatDoor

namespace Go.RS
open Go.RowKit Go.VB Go.VS Go.MK Go.Proofs.YtnmlajmaffiigaaGreatDoor
/-- A truth value that says whether p holds; no older block has changed. -/
def SameP (p : Prop) (w : World) : Ending → World → Prop := fun en w' => ∃ b : Bool, en = .returned (.bool b) ∧ (b = true ↔ p) ∧ Below w.heap.size w w'
theorem SameP.no {p : Prop} {w w' : World} {x : Value} (hx : x = .bool false) (hp : ¬ p) (hb : Below w.heap.size w w') : SameP p w (.returned x) w' := ⟨false, by rw [hx], by simp [hp], hb⟩
/-- The slices hold these lists of records. -/
def DeepP (w : World) (B : Nat) (ps : List Sl) (ls : List (List Rc)) : Prop := ps.length = ls.length ∧ ∀ (i : Nat) (p : Sl) (l : List Rc), ps[i]? = some p → ls[i]? = some l → RdR w B p.val l
/-- A slice of slices of records that can be read. -/
def RdP (w : World) (B : Nat) (v : Value) (ls : List (List Rc)) : Prop := ∃ ps, RdV Sl.val w B v ps ∧ DeepP w B ps ls
section
variable {w w' : World} {B B' : Nat} {v : Value} {ps : List Sl} {ls ms : List (List Rc)} {lv : List (List Vl)} {A : Option Addr} {n c i : Nat}
theorem DeepP.below (h : DeepP w B ps ls) (hb : Below B w w') : DeepP w' B ps ls := ⟨h.1, fun i p l h1 h2 => (h.2 i p l h1 h2).below hb⟩
theorem DeepP.more (h : DeepP w B ps ls) (hB : B ≤ B') : DeepP w B' ps ls := ⟨h.1, fun i p l h1 h2 => (h.2 i p l h1 h2).more hB⟩
theorem DeepP.nil (w : World) (B : Nat) : DeepP w B [] [] := ⟨rfl, fun i p l h _ => by simp at h⟩
theorem DeepP.one {p : Sl} {x : List Rc} (h : RdR w B p.val x) : DeepP w B [p] [x] := by
  refine ⟨rfl, fun i p' l h1 h2 => ?_⟩
  match i, h1, h2 with
  | 0, h1, h2 => cases h1; cases h2; exact h
theorem DeepP.get (h : DeepP w B ps ls) {x : List Rc} (hx : ls[i]? = some x) : ∃ p, ps[i]? = some p ∧ RdR w B p.val x := by
  have hi : i < ps.length := by rw [h.1]; exact (List.getElem?_eq_some_iff.1 hx).1
  exact ⟨ps[i], List.getElem?_eq_getElem hi, h.2 i _ x (List.getElem?_eq_getElem hi) hx⟩
theorem RdP.nil (w : World) (B : Nat) : RdP w B (.slice none 0 0) [] := ⟨[], RdV.nil _ _ _, DeepP.nil w B⟩
theorem RdP.below (h : RdP w B v ls) (hb : Below B w w') : RdP w' B v ls := by
  obtain ⟨ps, h1, h2⟩ := h; exact ⟨ps, h1.below hb, h2.below hb⟩
theorem RdP.more (h : RdP w B v ls) (hB : B ≤ B') : RdP w B' v ls := by
  obtain ⟨ps, h1, h2⟩ := h; exact ⟨ps, h1.more hB, h2.more hB⟩
theorem RdP.step (h : RdP w w.heap.size v ls) (hb : Below w.heap.size w w') : RdP w' w'.heap.size v ls := (h.below hb).more hb.size
/-- List i: its slice's cell, and that it can be read. -/
theorem RdP.at (h : RdP w B (.slice A n c) ls) {x : List Rc} (hr : ls[i]? = some x) : ∃ ad rA rn rc, A = some ad ∧ ad.block < B ∧ w.cell? (ad.add i) = some (.slice rA rn rc) ∧ RdR w B (.slice rA rn rc) x := by
  obtain ⟨ps, h1, h2⟩ := h
  obtain ⟨⟨rA, rn, rc⟩, hp, hd⟩ := h2.get hr
  obtain ⟨A', c', he, _, _, ha⟩ := h1
  cases he
  obtain ⟨ad, e, hb, ha⟩ := ha i _ hp
  exact ⟨ad, rA, rn, rc, e, hb, ha, hd⟩
theorem RdLL.at (h : RdLL w B (.slice A n c) lv) {x : List Vl} (hr : lv[i]? = some x) : ∃ ad rA rn rc, A = some ad ∧ ad.block < B ∧ w.cell? (ad.add i) = some (.slice rA rn rc) ∧ RdL w B (.slice rA rn rc) x := by
  obtain ⟨ps, h1, h2⟩ := h
  obtain ⟨⟨rA, rn, rc⟩, hp, hd⟩ := h2.get hr
  obtain ⟨A', c', he, _, _, ha⟩ := h1
  cases he
  obtain ⟨ad, e, hb, ha⟩ := ha i _ hp
  exact ⟨ad, rA, rn, rc, e, hb, ha, hd⟩
end
end Go.RS
namespace Go.Proofs.YtnmlajmaffiigaaGreatDoor
open Go.RowKit Go.VB Go.VS Go.MK Go.RS
set_option linter.constructorNameAsVariable false
end Go.Proofs.YtnmlajmaffiigaaGreatDoor
