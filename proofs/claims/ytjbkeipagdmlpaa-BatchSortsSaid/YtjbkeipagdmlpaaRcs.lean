/- Records (a number and a slice of values) and lists of slices of values: rows of them, what lies behind them. -/
import Derived.Test.YtjbkeipagdmlpaaMemK
import Derived.Test.YtjbkeipagdmlpaaVls
namespace Go.RS
open Go.RowKit Go.VB Go.VS Go.MK
/-- A slice as it lies in a cell. -/
structure Sl where
  A : Option Addr
  n : Nat
  c : Nat
def Sl.val (s : Sl) : Value := .slice s.A s.n s.c
def sl0 : Sl := ⟨none, 0, 0⟩
/-- A record as it lies: its number and its row's slice. -/
structure Rs where
  seq : Int
  row : Sl
def recL : Lay Rs where
  K := 2
  cs x := [.int .i64 x.seq, x.row.val]
  len _ := rfl
  pos := by decide
  one x u hu := by
    simp only [List.mem_cons, List.not_mem_nil, or_false] at hu
    rcases hu with rfl | rfl <;> rfl
  z := ⟨0, sl0⟩
  zv := .agg #[.int .i64 0, .slice none 0 0]
  zc := rfl
/-- A record: its number and its row. -/
structure Rc where
  seq : Int
  row : List Vl
/-- The slices hold these lists of values. -/
def DeepL (w : World) (B : Nat) (ps : List Sl) (ls : List (List Vl)) : Prop := ps.length = ls.length ∧ ∀ (i : Nat) (p : Sl) (l : List Vl), ps[i]? = some p → ls[i]? = some l → RdL w B p.val l
/-- The records hold these rows. -/
def DeepR (w : World) (B : Nat) (ps : List Rs) (l : List Rc) : Prop := ps.length = l.length ∧ ∀ (i : Nat) (p : Rs) (r : Rc), ps[i]? = some p → l[i]? = some r → p.seq = r.seq ∧ RdL w B p.row.val r.row
/-- A slice of slices of values that can be read. -/
def RdLL (w : World) (B : Nat) (v : Value) (ls : List (List Vl)) : Prop := ∃ ps, RdV Sl.val w B v ps ∧ DeepL w B ps ls
/-- A slice of records that can be read. -/
def RdR (w : World) (B : Nat) (v : Value) (l : List Rc) : Prop := ∃ ps, RdK recL w B v ps ∧ DeepR w B ps l
section
variable {w w' : World} {B B' : Nat} {v : Value} {ps : List Sl} {qs : List Rs} {ls ms : List (List Vl)} {l m : List Rc} {A : Option Addr} {n c i : Nat}
theorem DeepL.below (h : DeepL w B ps ls) (hb : Below B w w') : DeepL w' B ps ls := ⟨h.1, fun i p l h1 h2 => (h.2 i p l h1 h2).below hb⟩
theorem DeepL.more (h : DeepL w B ps ls) (hB : B ≤ B') : DeepL w B' ps ls := ⟨h.1, fun i p l h1 h2 => (h.2 i p l h1 h2).more hB⟩
theorem DeepL.step (h : DeepL w w.heap.size ps ls) (hb : Below w.heap.size w w') : DeepL w' w'.heap.size ps ls := (h.below hb).more hb.size
theorem DeepL.nil (w : World) (B : Nat) : DeepL w B [] [] := ⟨rfl, fun i p l h _ => by simp at h⟩
theorem DeepL.app {ps' : List Sl} (h : DeepL w B ps ls) (h' : DeepL w B ps' ms) : DeepL w B (ps ++ ps') (ls ++ ms) := by
  refine ⟨by rw [List.length_append, List.length_append, h.1, h'.1], fun i p l h1 h2 => ?_⟩
  by_cases hi : i < ps.length
  · rw [List.getElem?_append_left hi] at h1
    rw [List.getElem?_append_left (by rw [← h.1]; exact hi)] at h2
    exact h.2 i p l h1 h2
  · rw [List.getElem?_append_right (by omega)] at h1
    rw [List.getElem?_append_right (by rw [← h.1]; omega), ← h.1] at h2
    exact h'.2 _ p l h1 h2
theorem DeepL.one {p : Sl} {x : List Vl} (h : RdL w B p.val x) : DeepL w B [p] [x] := by
  refine ⟨rfl, fun i p' l h1 h2 => ?_⟩
  match i, h1, h2 with
  | 0, h1, h2 => cases h1; cases h2; exact h
theorem DeepL.get (h : DeepL w B ps ls) {x : List Vl} (hx : ls[i]? = some x) : ∃ p, ps[i]? = some p ∧ RdL w B p.val x := by
  have hi : i < ps.length := by rw [h.1]; exact (List.getElem?_eq_some_iff.1 hx).1
  exact ⟨ps[i], List.getElem?_eq_getElem hi, h.2 i _ x (List.getElem?_eq_getElem hi) hx⟩
theorem DeepR.below (h : DeepR w B qs l) (hb : Below B w w') : DeepR w' B qs l := ⟨h.1, fun i p r h1 h2 => ⟨(h.2 i p r h1 h2).1, (h.2 i p r h1 h2).2.below hb⟩⟩
theorem DeepR.more (h : DeepR w B qs l) (hB : B ≤ B') : DeepR w B' qs l := ⟨h.1, fun i p r h1 h2 => ⟨(h.2 i p r h1 h2).1, (h.2 i p r h1 h2).2.more hB⟩⟩
theorem DeepR.step (h : DeepR w w.heap.size qs l) (hb : Below w.heap.size w w') : DeepR w' w'.heap.size qs l := (h.below hb).more hb.size
theorem DeepR.nil (w : World) (B : Nat) : DeepR w B [] [] := ⟨rfl, fun i p r h _ => by simp at h⟩
theorem DeepR.app {qs' : List Rs} (h : DeepR w B qs l) (h' : DeepR w B qs' m) : DeepR w B (qs ++ qs') (l ++ m) := by
  refine ⟨by rw [List.length_append, List.length_append, h.1, h'.1], fun i p r h1 h2 => ?_⟩
  by_cases hi : i < qs.length
  · rw [List.getElem?_append_left hi] at h1
    rw [List.getElem?_append_left (by rw [← h.1]; exact hi)] at h2
    exact h.2 i p r h1 h2
  · rw [List.getElem?_append_right (by omega)] at h1
    rw [List.getElem?_append_right (by rw [← h.1]; omega), ← h.1] at h2
    exact h'.2 _ p r h1 h2
theorem DeepR.one {p : Rs} {r : Rc} (h1 : p.seq = r.seq) (h : RdL w B p.row.val r.row) : DeepR w B [p] [r] := by
  refine ⟨rfl, fun i p' r' h1' h2' => ?_⟩
  match i, h1', h2' with
  | 0, h1', h2' => cases h1'; cases h2'; exact ⟨h1, h⟩
theorem DeepR.get (h : DeepR w B qs l) {r : Rc} (hr : l[i]? = some r) : ∃ p, qs[i]? = some p ∧ p.seq = r.seq ∧ RdL w B p.row.val r.row := by
  have hi : i < qs.length := by rw [h.1]; exact (List.getElem?_eq_some_iff.1 hr).1
  exact ⟨qs[i], List.getElem?_eq_getElem hi, h.2 i _ r (List.getElem?_eq_getElem hi) hr⟩
theorem DeepR.take (h : DeepR w B qs l) (k : Nat) : DeepR w B (qs.take k) (l.take k) := by
  refine ⟨by rw [List.length_take, List.length_take, h.1], fun i p r h1 h2 => ?_⟩
  by_cases hi : i < k
  · rw [List.getElem?_take, if_pos hi] at h1 h2; exact h.2 i p r h1 h2
  · rw [List.getElem?_take, if_neg hi] at h1; cases h1
theorem DeepR.drop (h : DeepR w B qs l) (k : Nat) : DeepR w B (qs.drop k) (l.drop k) := by
  refine ⟨by rw [List.length_drop, List.length_drop, h.1], fun i p r h1 h2 => ?_⟩
  rw [List.getElem?_drop] at h1 h2
  exact h.2 _ p r h1 h2
theorem DeepR.set {p : Rs} {r : Rc} (h : DeepR w B qs l) (i : Nat) (h1 : p.seq = r.seq) (h2 : RdL w B p.row.val r.row) : DeepR w B (qs.set i p) (l.set i r) := by
  refine ⟨by rw [List.length_set, List.length_set, h.1], fun j p' r' hp hr => ?_⟩
  by_cases hj : i = j
  · subst hj
    have hi : i < qs.length := by have := (List.getElem?_eq_some_iff.1 hp).1; rwa [List.length_set] at this
    rw [List.getElem?_set_self hi] at hp
    rw [List.getElem?_set_self (by rw [← h.1]; exact hi)] at hr
    cases hp; cases hr; exact ⟨h1, h2⟩
  · rw [List.getElem?_set_ne hj] at hp hr
    exact h.2 j p' r' hp hr
theorem RdLL.nil (w : World) (B : Nat) : RdLL w B (.slice none 0 0) [] := ⟨[], RdV.nil _ _ _, DeepL.nil w B⟩
theorem RdLL.below (h : RdLL w B v ls) (hb : Below B w w') : RdLL w' B v ls := by
  obtain ⟨ps, h1, h2⟩ := h; exact ⟨ps, h1.below hb, h2.below hb⟩
theorem RdLL.more (h : RdLL w B v ls) (hB : B ≤ B') : RdLL w B' v ls := by
  obtain ⟨ps, h1, h2⟩ := h; exact ⟨ps, h1.more hB, h2.more hB⟩
theorem RdLL.step (h : RdLL w w.heap.size v ls) (hb : Below w.heap.size w w') : RdLL w' w'.heap.size v ls := (h.below hb).more hb.size
theorem RdR.nil (w : World) (B : Nat) : RdR w B (.slice none 0 0) [] := ⟨[], RdK.nil _ _ _, DeepR.nil w B⟩
theorem RdR.below (h : RdR w B v l) (hb : Below B w w') : RdR w' B v l := by
  obtain ⟨ps, h1, h2⟩ := h; exact ⟨ps, h1.below hb, h2.below hb⟩
theorem RdR.more (h : RdR w B v l) (hB : B ≤ B') : RdR w B' v l := by
  obtain ⟨ps, h1, h2⟩ := h; exact ⟨ps, h1.more hB, h2.more hB⟩
theorem RdR.step (h : RdR w w.heap.size v l) (hb : Below w.heap.size w w') : RdR w' w'.heap.size v l := (h.below hb).more hb.size
theorem RdR.bds (h : RdR w B v l) : ∃ A c n, v = .slice A n c ∧ n = l.length ∧ n ≤ c ∧ c ≤ 9223372036854775807 := by
  obtain ⟨ps, h1, h2⟩ := h
  obtain ⟨A, c, n, e, hn, h3, h4⟩ := h1.bds
  exact ⟨A, c, n, e, hn.trans h2.1, h3, h4⟩
/-- Record i: its number's cell, its row's cell, its row. -/
theorem RdR.at (h : RdR w B (.slice A n c) l) {r : Rc} (hr : l[i]? = some r) : ∃ ad rA rn rc, A = some ad ∧ ad.block < B ∧ w.cell? (ad.add (i * 2)) = some (.int .i64 r.seq) ∧ w.cell? ⟨(ad.add (i * 2)).block, (ad.add (i * 2)).off + 1, none⟩ = some (.slice rA rn rc) ∧ rn = r.row.length ∧ RdL w B (.slice rA rn rc) r.row := by
  obtain ⟨ps, h1, h2⟩ := h
  obtain ⟨⟨ps1, ⟨rA, rn, rc⟩⟩, hp, hs, hd⟩ := h2.get hr
  obtain ⟨ad, e, hb, ha⟩ := h1.at hp
  simp only at hs
  subst hs
  obtain ⟨_, _, _, e2, e3, _, _⟩ := hd.bds
  cases e2
  exact ⟨ad, rA, rn, rc, e, hb, ha.c0 rfl, ha.ck 1 (by decide) rfl, e3, hd⟩
/-- l[:k]. -/
theorem RdR.head (h : RdR w B (.slice A n c) l) {k : Nat} (hk : k ≤ l.length) : RdR w B (.slice A k c) (l.take k) := by
  obtain ⟨ps, h1, h2⟩ := h
  have hl : (ps.take k).length = k := by rw [List.length_take, h2.1]; omega
  have h3 := h1.head (m := ps.take k) (by rw [hl]) (by rw [hl, h2.1]; exact hk)
  rw [hl] at h3
  exact ⟨_, h3, h2.take k⟩
/-- l[i:] as the walk spells it. -/
theorem RdR.cutC {ad : Addr} (h : RdR w B (.slice (some ad) n c) l) {i : Nat} (hi : i ≤ l.length) : RdR w B (.slice (if c = i then some ad else some (ad.add (i * 2))) (n - i) (c - i)) (l.drop i) := by
  obtain ⟨ps, h1, h2⟩ := h
  exact ⟨_, h1.cutC (i := i) (by rw [h2.1]; exact hi), h2.drop i⟩
end
end Go.RS
