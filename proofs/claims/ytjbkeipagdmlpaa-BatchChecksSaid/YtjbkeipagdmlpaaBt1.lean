/- Layer 15: what the check of a row and of a batch finds, which records are valid, when they are sorted (pure). -/
import Derived.Test.YtjbkeipagdmlpaaRnk
import Derived.Test.YtjbkeipagdmlpaaSch
namespace Go.RS
open Go.RowKit Go.VB Go.VS Go.VL Go.SC Go.CK Go.ST Go.MK
/-- The first of the codes that is not 0. -/
def fe : List Nat → Nat
  | [] => 0
  | e :: r => if e = 0 then fe r else e
theorem fe_hit : ∀ {l : List Nat} {j e : Nat}, l[j]? = some e → (∀ k, k < j → l[k]? = some 0) → ¬ e = 0 → fe l = e
  | [], j, e, h, _, _ => by simp at h
  | x :: r, 0, e, h, _, h0 => by
    simp at h; subst h
    show (if x = 0 then fe r else x) = x
    rw [if_neg h0]
  | x :: r, j + 1, e, h, h1, h0 => by
    have hx := h1 0 (by omega)
    simp at hx; subst hx
    show (if 0 = 0 then fe r else 0) = e
    rw [if_pos rfl]
    exact fe_hit (by simpa using h) (fun k hk => by have := h1 (k + 1) (by omega); simpa using this) h0
theorem fe_none : ∀ {l : List Nat}, (∀ e ∈ l, e = 0) → fe l = 0
  | [], _ => rfl
  | x :: r, h => by
    show (if x = 0 then fe r else x) = 0
    rw [if_pos (h x (List.mem_cons_self ..)), fe_none fun e he => h e (List.mem_cons_of_mem _ he)]
theorem fe_zero : ∀ {l : List Nat}, fe l = 0 → ∀ e ∈ l, e = 0
  | [], _, e, he => by simp at he
  | x :: r, h, e, he => by
    have h' : (if x = 0 then fe r else x) = 0 := h
    by_cases h0 : x = 0
    · rw [if_pos h0] at h'
      rcases List.mem_cons.1 he with rfl | he
      · exact h0
      · exact fe_zero h' e he
    · rw [if_neg h0] at h'; exact absurd h' h0
/-- What the check of a row finds. -/
def chkRow (cs : List Col) (l : List Vl) : Nat := if l.length = cs.length then fe ((List.range l.length).map fun i => chkV (cs.getD i col0).ty (cs.getD i col0).nu (l.getD i vl0)) else 1
theorem chkRow_len {cs : List Col} {l : List Vl} (h : ¬ l.length = cs.length) : chkRow cs l = 1 := if_neg h
theorem chkRow_hit {cs : List Col} {l : List Vl} {j : Nat} {x : Vl} (h : l.length = cs.length) (hx : l[j]? = some x) (h1 : ∀ (k : Nat) (y : Vl), k < j → l[k]? = some y → chkV (cs.getD k col0).ty (cs.getD k col0).nu y = 0)
    (h0 : ¬ chkV (cs.getD j col0).ty (cs.getD j col0).nu x = 0) : chkRow cs l = chkV (cs.getD j col0).ty (cs.getD j col0).nu x := by
  unfold chkRow
  rw [if_pos h]
  have hj : j < l.length := (List.getElem?_eq_some_iff.1 hx).1
  have hget : ∀ k y, l[k]? = some y → l.getD k vl0 = y := fun k y hy => by rw [List.getD_eq_getElem?_getD, hy]; rfl
  refine fe_hit (j := j) ?_ (fun k hk => ?_) h0
  · rw [List.getElem?_map, List.getElem?_range hj, Option.map_some, hget j x hx]
  · have hkl : k < l.length := by omega
    rw [List.getElem?_map, List.getElem?_range hkl, Option.map_some, hget k l[k] (List.getElem?_eq_getElem hkl), h1 k _ hk (List.getElem?_eq_getElem hkl)]
theorem chkRow_none {cs : List Col} {l : List Vl} (h : l.length = cs.length) (h1 : ∀ (k : Nat) (y : Vl), l[k]? = some y → chkV (cs.getD k col0).ty (cs.getD k col0).nu y = 0) : chkRow cs l = 0 := by
  unfold chkRow
  rw [if_pos h]
  refine fe_none fun e he => ?_
  obtain ⟨k, hk, rfl⟩ := List.mem_map.1 he
  have hkl : k < l.length := List.mem_range.1 hk
  have : l.getD k vl0 = l[k] := by rw [List.getD_eq_getElem?_getD, List.getElem?_eq_getElem hkl]; rfl
  rw [this]
  exact h1 k _ (List.getElem?_eq_getElem hkl)
theorem chkRow_zero {cs : List Col} {l : List Vl} (h : chkRow cs l = 0) : l.length = cs.length := by
  unfold chkRow at h
  by_cases hl : l.length = cs.length
  · exact hl
  · rw [if_neg hl] at h; cases h
/-- What the check of a batch finds. -/
def chkB (cs : List Col) (key : Int) (rows : List (List Vl)) : Nat := if ¬ chkS cs key = 0 then chkS cs key else if 4096 < rows.length then 7 else fe (rows.map (chkRow cs))
theorem chkB_sch {cs : List Col} {key : Int} {rows : List (List Vl)} (h : ¬ chkS cs key = 0) : chkB cs key rows = chkS cs key := if_pos h
theorem chkB_full {cs : List Col} {key : Int} {rows : List (List Vl)} (h : chkS cs key = 0) (h2 : 4096 < rows.length) : chkB cs key rows = 7 := by
  unfold chkB; rw [if_neg (by simp [h]), if_pos h2]
theorem chkB_hit {cs : List Col} {key : Int} {rows : List (List Vl)} {j : Nat} {r : List Vl} (h : chkS cs key = 0) (h2 : ¬ 4096 < rows.length) (hr : rows[j]? = some r) (h1 : ∀ (k : Nat) (y : List Vl), k < j → rows[k]? = some y → chkRow cs y = 0) (h0 : ¬ chkRow cs r = 0) :
    chkB cs key rows = chkRow cs r := by
  unfold chkB
  rw [if_neg (by simp [h]), if_neg h2]
  have hj : j < rows.length := (List.getElem?_eq_some_iff.1 hr).1
  refine fe_hit (j := j) (by rw [List.getElem?_map, hr]; rfl) (fun k hk => ?_) h0
  have hkl : k < rows.length := by omega
  rw [List.getElem?_map, List.getElem?_eq_getElem hkl, Option.map_some, h1 k _ hk (List.getElem?_eq_getElem hkl)]
theorem chkB_none {cs : List Col} {key : Int} {rows : List (List Vl)} (h : chkS cs key = 0) (h2 : ¬ 4096 < rows.length) (h1 : ∀ (k : Nat) (y : List Vl), rows[k]? = some y → chkRow cs y = 0) : chkB cs key rows = 0 := by
  unfold chkB
  rw [if_neg (by simp [h]), if_neg h2]
  refine fe_none fun e he => ?_
  obtain ⟨y, hy, rfl⟩ := List.mem_map.1 he
  obtain ⟨k, hk, rfl⟩ := List.mem_iff_getElem.1 hy
  exact h1 k _ (List.getElem?_eq_getElem hk)
/-- A valid record. -/
def okRec (cs : List Col) (r : Rc) : Bool := decide (0 ≤ r.seq ∧ r.seq ≤ 1099511627776 ∧ chkRow cs r.row = 0)
/-- The schema and the records are valid. -/
def valR (cs : List Col) (key : Int) (l : List Rc) : Bool := decide (chkS cs key = 0) && l.all (okRec cs)
theorem valR_sch {cs : List Col} {key : Int} {l : List Rc} (h : ¬ chkS cs key = 0) : valR cs key l = false := by unfold valR; rw [decide_eq_false h]; rfl
theorem valR_bad {cs : List Col} {key : Int} {l : List Rc} {j : Nat} {r : Rc} (hr : l[j]? = some r) (h : okRec cs r = false) : valR cs key l = false := by
  have : l.all (okRec cs) = false := by
    rw [List.all_eq_false]
    exact ⟨r, List.mem_of_getElem? hr, by rw [h]; decide⟩
  unfold valR
  rw [this, Bool.and_false]
theorem valR_ok {cs : List Col} {key : Int} {l : List Rc} (h : chkS cs key = 0) (h1 : ∀ (k : Nat) (r : Rc), l[k]? = some r → okRec cs r = true) : valR cs key l = true := by
  unfold valR
  rw [decide_eq_true h, Bool.true_and, List.all_eq_true]
  intro r hr
  obtain ⟨k, hk, rfl⟩ := List.mem_iff_getElem.1 hr
  exact h1 k _ (List.getElem?_eq_getElem hk)
theorem valR_sound {cs : List Col} {key : Int} {l : List Rc} (h : valR cs key l = true) : chkS cs key = 0 ∧ ∀ r ∈ l, okRec cs r = true := by
  unfold valR at h
  obtain ⟨h1, h2⟩ := Bool.and_eq_true_iff.1 h
  exact ⟨of_decide_eq_true h1, List.all_eq_true.1 h2⟩
theorem okRec_lo {cs : List Col} {r : Rc} (h : r.seq < 0) : okRec cs r = false := decide_eq_false (by rintro ⟨h1, _⟩; omega)
theorem okRec_hi {cs : List Col} {r : Rc} (h : 1099511627776 < r.seq) : okRec cs r = false := decide_eq_false (by rintro ⟨_, h1, _⟩; omega)
theorem okRec_row {cs : List Col} {r : Rc} (h : ¬ chkRow cs r.row = 0) : okRec cs r = false := decide_eq_false (by rintro ⟨_, _, h1⟩; exact h h1)
theorem okRec_ok {cs : List Col} {r : Rc} (h1 : ¬ r.seq < 0) (h2 : ¬ 1099511627776 < r.seq) (h3 : chkRow cs r.row = 0) : okRec cs r = true := decide_eq_true ⟨by omega, by omega, h3⟩
theorem okRec_sound {cs : List Col} {r : Rc} (h : okRec cs r = true) : 0 ≤ r.seq ∧ r.seq ≤ 1099511627776 ∧ r.row.length = cs.length := by
  have := of_decide_eq_true h
  exact ⟨this.1, this.2.1, chkRow_zero this.2.2⟩
/-- The type of the key's column. -/
def keyT (cs : List Col) (key : Int) : Int := (cs.getD key.toNat col0).ty
/-- Each record's rank is less than the next one's. -/
def ascR (ty : Int) (k : Nat) (l : List Rc) : Bool := (List.range l.length).all fun i => match l[i]?, l[i + 1]? with
  | some a, some b => decide (cmpRec ty k a b < 0)
  | _, _ => true
theorem ascR_bad {ty : Int} {k : Nat} {l : List Rc} {i : Nat} {a b : Rc} (ha : l[i]? = some a) (hb : l[i + 1]? = some b) (h : 0 ≤ cmpRec ty k a b) : ascR ty k l = false := by
  unfold ascR
  rw [List.all_eq_false]
  refine ⟨i, List.mem_range.2 (List.getElem?_eq_some_iff.1 ha).1, ?_⟩
  rw [ha, hb]
  simpa using h
theorem ascR_ok {ty : Int} {k : Nat} {l : List Rc} (h : ∀ (i : Nat) (a b : Rc), l[i]? = some a → l[i + 1]? = some b → cmpRec ty k a b < 0) : ascR ty k l = true := by
  unfold ascR
  rw [List.all_eq_true]
  intro i _
  cases ha : l[i]? with
  | none => rfl
  | some a =>
    cases hb : l[i + 1]? with
    | none => rfl
    | some b => exact decide_eq_true (h i a b ha hb)
theorem ascR_sound {ty : Int} {k : Nat} {l : List Rc} (h : ascR ty k l = true) : ∀ (i : Nat) (a b : Rc), l[i]? = some a → l[i + 1]? = some b → cmpRec ty k a b < 0 := by
  intro i a b ha hb
  unfold ascR at h
  have := List.all_eq_true.1 h i (List.mem_range.2 (List.getElem?_eq_some_iff.1 ha).1)
  rw [ha, hb] at this
  exact of_decide_eq_true this
/-- The records are valid and sorted. -/
def srtdB (cs : List Col) (key : Int) (l : List Rc) : Bool := valR cs key l && ascR (keyT cs key) key.toNat l
theorem srtdB_inv {cs : List Col} {key : Int} {l : List Rc} (h : valR cs key l = false) : srtdB cs key l = false := by unfold srtdB; rw [h]; rfl
theorem srtdB_val {cs : List Col} {key : Int} {l : List Rc} (h : valR cs key l = true) : srtdB cs key l = ascR (keyT cs key) key.toNat l := by unfold srtdB; rw [h]; rfl
/-- The records sorted, or none. -/
def sortR (cs : List Col) (key : Int) (l : List Rc) : List Rc := if valR cs key l = true then srtR (keyT cs key) key.toNat l else []
theorem sortR_inv {cs : List Col} {key : Int} {l : List Rc} (h : valR cs key l = false) : sortR cs key l = [] := by unfold sortR; rw [h]; rfl
theorem sortR_val {cs : List Col} {key : Int} {l : List Rc} (h : valR cs key l = true) : sortR cs key l = srtR (keyT cs key) key.toNat l := if_pos h
theorem keyV_at {k : Nat} {r : Rc} {x : Vl} (h : r.row[k]? = some x) : keyV k r = x := by unfold keyV; rw [List.getD_eq_getElem?_getD, h]; rfl
/-- It returns records of its own; what was there is as it was. -/
def RetRs (e : TypeId) (l : List Rc) (w : World) : Ending → World → Prop := fun en w' => ∃ v ps, en = .returned v ∧ OwnK recL e w' w.heap.size v ps ∧ DeepR w' w'.heap.size ps l ∧ Below w.heap.size w w'
theorem RetRs.mk {e : TypeId} {l : List Rc} {w w' : World} {x v : Value} {ps : List Rs} (hx : x = v) (ho : OwnK recL e w' w.heap.size v ps) (hd : DeepR w' w'.heap.size ps l) (hb : Below w.heap.size w w') : RetRs e l w (.returned x) w' := ⟨v, ps, by rw [hx], ho, hd, hb⟩
theorem RdR.len {w : World} {B : Nat} {A : Option Addr} {n c : Nat} {l : List Rc} (h : RdR w B (.slice A n c) l) : n = l.length ∧ n ≤ c ∧ c ≤ maxLen := by
  obtain ⟨ps, ⟨A', c', hv, h1, h2, _⟩, hd⟩ := h
  cases hv
  exact ⟨hd.1, h1, h2⟩
theorem OwnK.rdR {e : TypeId} {w : World} {base : Nat} {v : Value} {ps : List Rs} {l : List Rc} (h : OwnK recL e w base v ps) (hd : DeepR w w.heap.size ps l) : RdR w w.heap.size v l := ⟨ps, h.read, hd⟩
end Go.RS
