/- Sorted dictionaries: the order of texts, the different texts of a list in ascending order, their places, the encoding, and what Decode finds. -/
import Derived.Test.YtnmlajmaffiigaaGreatDoorGr
import Derived.Test.YtnmlajmaffiigaaGreatDoorGn
import Derived.Test.YtnmlajmaffiigaaGreatDoorGo
import Derived.Deep.Strs
import Derived.Deep.RegionWith
import Derived.Deep.RegionLaw
import Derived.StillTailTactics
import Derived.Laws.IdiomStrings
import Derived.Laws.IdiomCopy
import Derived.Maps.OwnOps
import Derived.Maps.Views
import Derived.WalkKit
namespace Go.DI
open Go.RowKit Go.VB Go.VarM Go.BP Go.RL

/-! the order, byte by byte -/
def lts (a b : ByteArray) : Bool := Go.Op.bytesLess a.toList b.toList
theorem less_irr : ∀ (a : List UInt8), Go.Op.bytesLess a a = false
  | [] => rfl
  | a :: l => by simp [Go.Op.bytesLess, less_irr l]
theorem less_tri : ∀ (a b : List UInt8), Go.Op.bytesLess a b = true ∨ a = b ∨ Go.Op.bytesLess b a = true
  | [], [] => .inr (.inl rfl)
  | [], _ :: _ => .inl rfl
  | _ :: _, [] => .inr (.inr rfl)
  | a :: l, b :: m => by
    have h := less_tri l m
    simp only [Go.Op.bytesLess]
    by_cases h1 : a < b
    · simp [h1]
    · by_cases h2 : b < a
      · simp [h2]
      · have e : a = b := by
          apply UInt8.toNat_inj.1
          have h1' : ¬ a.toNat < b.toNat := h1
          have h2' : ¬ b.toNat < a.toNat := h2
          omega
        subst e
        simp only [h1, beq_self_eq_true, Bool.false_or, decide_false, Bool.true_and, List.cons.injEq, true_and]
        simpa using h
theorem less_trans : ∀ (a b c : List UInt8), Go.Op.bytesLess a b = true → Go.Op.bytesLess b c = true → Go.Op.bytesLess a c = true
  | _, [], [], _, h => by simp [Go.Op.bytesLess] at h
  | [], [], _ :: _, h, _ => by simp [Go.Op.bytesLess] at h
  | [], _ :: _, [], _, h => by simp [Go.Op.bytesLess] at h
  | [], _ :: _, _ :: _, _, _ => rfl
  | _ :: _, [], _, h, _ => by simp [Go.Op.bytesLess] at h
  | _ :: _, _ :: _, [], _, h => by simp [Go.Op.bytesLess] at h
  | a :: l, b :: m, c :: n, h1, h2 => by
    simp only [Go.Op.bytesLess, Bool.or_eq_true, decide_eq_true_eq, Bool.and_eq_true, beq_iff_eq] at h1 h2 ⊢
    rcases h1 with h1 | ⟨rfl, h1⟩
    · rcases h2 with h2 | ⟨rfl, _⟩
      · left
        have h1' : a.toNat < b.toNat := h1
        have h2' : b.toNat < c.toNat := h2
        exact (show a.toNat < c.toNat by omega)
      · exact .inl h1
    · rcases h2 with h2 | ⟨rfl, h2⟩
      · exact .inl h2
      · exact .inr ⟨rfl, less_trans l m n h1 h2⟩
theorem toList_inj {s t : ByteArray} (h : s.toList = t.toList) : s = t := by
  rw [ByteArray.toList_eq, ByteArray.toList_eq] at h
  exact Go.WideShapes.bytes_inj h
theorem lts_irr (a : ByteArray) : lts a a = false := less_irr _
theorem lts_trans {a b c : ByteArray} (h1 : lts a b = true) (h2 : lts b c = true) : lts a c = true := less_trans _ _ _ h1 h2
theorem lts_tri (a b : ByteArray) : lts a b = true ∨ a = b ∨ lts b a = true := by
  rcases less_tri a.toList b.toList with h | h | h
  · exact .inl h
  · exact .inr (.inl (toList_inj h))
  · exact .inr (.inr h)
theorem lts_ne {a b : ByteArray} (h : lts a b = true) : a ≠ b := fun e => by subst e; rw [lts_irr] at h; cases h
theorem lts_asym {a b : ByteArray} (h : lts a b = true) : lts b a = false := by
  cases hb : lts b a with
  | false => rfl
  | true => have := lts_trans h hb; rw [lts_irr] at this; cases this
theorem lts_not {a b : ByteArray} (h : lts a b = false) (hne : a ≠ b) : lts b a = true := by
  rcases lts_tri a b with h1 | h1 | h1
  · rw [h] at h1; cases h1
  · exact absurd h1 hne
  · exact h1
theorem le_trans {a b c : ByteArray} (h1 : lts a b = true) (h2 : lts c b = false) : lts a c = true := by
  rcases lts_tri c b with h | h | h
  · rw [h2] at h; cases h
  · subst h; exact h1
  · exact lts_trans h1 h

/-! ascending lists -/
def Asc (l : List ByteArray) : Prop := l.Pairwise fun a b => lts a b = true
theorem Asc.nil : Asc [] := List.Pairwise.nil
theorem Asc.one (a : ByteArray) : Asc [a] := List.pairwise_singleton _ _
theorem asc_ext : ∀ {a b : List ByteArray}, Asc a → Asc b → (∀ x, x ∈ a ↔ x ∈ b) → a = b
  | [], [], _, _, _ => rfl
  | [], y :: b, _, _, h => by have := (h y).2 (List.mem_cons_self ..); simp at this
  | x :: a, [], _, _, h => by have := (h x).1 (List.mem_cons_self ..); simp at this
  | x :: a, y :: b, ha, hb, h => by
    obtain ⟨ha1, ha2⟩ := List.pairwise_cons.1 ha
    obtain ⟨hb1, hb2⟩ := List.pairwise_cons.1 hb
    have e : x = y := by
      have h1 := (h x).1 (List.mem_cons_self ..)
      have h2 := (h y).2 (List.mem_cons_self ..)
      rcases List.mem_cons.1 h1 with h1 | h1
      · exact h1
      · rcases List.mem_cons.1 h2 with h2 | h2
        · exact h2.symm
        · have k1 := hb1 x h1
          have k2 := ha1 y h2
          rw [lts_asym k1] at k2; cases k2
    subst e
    congr 1
    refine asc_ext ha2 hb2 fun z => ?_
    constructor
    · intro hz
      rcases List.mem_cons.1 ((h z).1 (List.mem_cons_of_mem _ hz)) with h1 | h1
      · subst h1; exact absurd rfl (lts_ne (ha1 _ hz))
      · exact h1
    · intro hz
      rcases List.mem_cons.1 ((h z).2 (List.mem_cons_of_mem _ hz)) with h1 | h1
      · subst h1; exact absurd rfl (lts_ne (hb1 _ hz))
      · exact h1
theorem asc_app {a b : List ByteArray} (ha : Asc a) (hb : Asc b) (h : ∀ x ∈ a, ∀ y ∈ b, lts x y = true) : Asc (a ++ b) := List.pairwise_append.2 ⟨ha, hb, h⟩
theorem Asc.at {l : List ByteArray} (h : Asc l) {i j : Nat} {x y : ByteArray} (hij : i < j) (hx : l[i]? = some x) (hy : l[j]? = some y) : lts x y = true := by
  obtain ⟨hi, rfl⟩ := List.getElem?_eq_some_iff.1 hx
  obtain ⟨hj, rfl⟩ := List.getElem?_eq_some_iff.1 hy
  exact List.pairwise_iff_getElem.1 h i j hi hj hij
theorem Asc.inj {l : List ByteArray} (h : Asc l) {i j : Nat} {x : ByteArray} (hx : l[i]? = some x) (hy : l[j]? = some x) : i = j := by
  rcases Nat.lt_trichotomy i j with h1 | h1 | h1
  · have := h.at h1 hx hy; rw [lts_irr] at this; cases this
  · exact h1
  · have := h.at h1 hy hx; rw [lts_irr] at this; cases this

/-! the place of a text among ascending ones -/
def plc (s : ByteArray) : List ByteArray → Nat
  | [] => 0
  | w :: r => if lts w s then plc s r + 1 else 0
theorem plc_le (s : ByteArray) : ∀ l, plc s l ≤ l.length
  | [] => Nat.le_refl _
  | w :: r => by
    have := plc_le s r
    unfold plc; split <;> simp <;> omega
theorem plc_lo (s : ByteArray) : ∀ (l : List ByteArray) (i : Nat) (x : ByteArray), i < plc s l → l[i]? = some x → lts x s = true
  | [], i, x, h, _ => by simp [plc] at h
  | w :: r, i, x, h, hx => by
    unfold plc at h
    by_cases hw : lts w s = true
    · rw [if_pos hw] at h
      cases i with
      | zero => simp at hx; rw [← hx]; exact hw
      | succ i => exact plc_lo s r i x (by omega) (by simpa using hx)
    · rw [if_neg hw] at h; omega
theorem plc_hi (s : ByteArray) : ∀ (l : List ByteArray) (x : ByteArray), l[plc s l]? = some x → lts x s = false
  | [], x, h => by simp at h
  | w :: r, x, h => by
    unfold plc at h
    by_cases hw : lts w s = true
    · rw [if_pos hw, List.getElem?_cons_succ] at h
      exact plc_hi s r x h
    · rw [if_neg hw] at h
      simp at h
      rw [← h]; simpa using hw
theorem plc_at {s : ByteArray} {l : List ByteArray} (h : Asc l) {i : Nat} (hi : l[i]? = some s) : plc s l = i := by
  rcases Nat.lt_trichotomy i (plc s l) with h1 | h1 | h1
  · have := plc_lo s l i s h1 hi; rw [lts_irr] at this; cases this
  · exact h1.symm
  · have hl := (List.getElem?_eq_some_iff.1 hi).1
    have h2 := plc_hi s l _ (List.getElem?_eq_getElem (by omega))
    rw [h.at h1 (List.getElem?_eq_getElem (by omega)) hi] at h2; cases h2
theorem plc_mem {s : ByteArray} {l : List ByteArray} (h : Asc l) (hs : s ∈ l) : plc s l < l.length ∧ l[plc s l]? = some s := by
  obtain ⟨i, hi, e⟩ := List.mem_iff_getElem.1 hs
  have h1 : l[i]? = some s := by rw [List.getElem?_eq_getElem hi, e]
  rw [plc_at h h1]
  exact ⟨hi, h1⟩

/-! the different texts of a list -/
def ins (s : ByteArray) (l : List ByteArray) : List ByteArray := if l[plc s l]? = some s then l else l.take (plc s l) ++ s :: l.drop (plc s l)
theorem mem_ins {s x : ByteArray} {l : List ByteArray} : x ∈ ins s l ↔ x = s ∨ x ∈ l := by
  unfold ins
  split
  · rename_i h
    constructor
    · exact .inr
    · rintro (rfl | h1)
      · exact List.mem_of_getElem? h
      · exact h1
  · have e : x ∈ l ↔ x ∈ l.take (plc s l) ∨ x ∈ l.drop (plc s l) := by
      rw [← List.mem_append, List.take_append_drop]
    rw [List.mem_append, List.mem_cons, e]
    constructor
    · rintro (h | h | h)
      · exact .inr (.inl h)
      · exact .inl h
      · exact .inr (.inr h)
    · rintro (h | h | h)
      · exact .inr (.inl h)
      · exact .inl h
      · exact .inr (.inr h)
theorem asc_ins {s : ByteArray} {l : List ByteArray} (h : Asc l) : Asc (ins s l) := by
  unfold ins
  split
  · exact h
  · rename_i hne
    have hto : ∀ x ∈ l.take (plc s l), lts x s = true := by
      intro x hx
      obtain ⟨i, hi, e⟩ := List.mem_iff_getElem.1 hx
      rw [List.length_take] at hi
      refine plc_lo s l i x (by omega) ?_
      rw [← e, List.getElem_take, List.getElem?_eq_getElem]
    have hfrom : ∀ x ∈ l.drop (plc s l), lts s x = true := by
      intro x hx
      obtain ⟨i, hi, e⟩ := List.mem_iff_getElem.1 hx
      rw [List.length_drop] at hi
      rw [List.getElem_drop] at e
      have h0 : l[plc s l]? = some l[plc s l] := List.getElem?_eq_getElem (by omega)
      have h1 := plc_hi s l _ h0
      have h2 : lts s l[plc s l] = true := lts_not h1 fun e' => hne (by rw [h0, e'])
      rcases Nat.eq_zero_or_pos i with hi0 | hi0
      · subst hi0
        rw [← e]; exact h2
      · refine lts_trans h2 ?_
        rw [← e]
        exact List.pairwise_iff_getElem.1 h _ _ (by omega) (by omega) (by omega)
    have hw : Asc (l.take (plc s l) ++ l.drop (plc s l)) := by rw [List.take_append_drop]; exact h
    obtain ⟨h1, h2, _⟩ := List.pairwise_append.1 hw
    refine asc_app h1 (List.pairwise_cons.2 ⟨hfrom, h2⟩) ?_
    intro x hx y hy
    rcases List.mem_cons.1 hy with hy | hy
    · subst hy; exact hto x hx
    · exact lts_trans (hto x hx) (hfrom y hy)
theorem ins_len (s : ByteArray) (l : List ByteArray) : (ins s l).length ≤ l.length + 1 := by
  have := plc_le s l
  unfold ins
  split
  · omega
  · rw [List.length_append, List.length_take, List.length_cons, List.length_drop]; omega
/-- The different texts of l, ascending. -/
def srt (l : List ByteArray) : List ByteArray := l.foldl (fun ws s => ins s ws) []
theorem srt_nil : srt [] = [] := rfl
theorem srt_snoc (l : List ByteArray) (s : ByteArray) : srt (l ++ [s]) = ins s (srt l) := by unfold srt; rw [List.foldl_append]; rfl
theorem take_snoc {α : Type} {l : List α} {j : Nat} {s : α} (h : l[j]? = some s) : l.take (j + 1) = l.take j ++ [s] := by rw [List.take_add_one, h]; rfl
theorem srt_take {l : List ByteArray} {j : Nat} {s : ByteArray} (h : l[j]? = some s) : srt (l.take (j + 1)) = ins s (srt (l.take j)) := by
  rw [take_snoc h, srt_snoc]
theorem srt_facts (l : List ByteArray) : ∀ j, Asc (srt (l.take j)) ∧ (∀ x, x ∈ srt (l.take j) ↔ x ∈ l.take j) ∧ (srt (l.take j)).length ≤ j := by
  intro j
  induction j with
  | zero => rw [List.take_zero]; exact ⟨Asc.nil, by simp [srt_nil], by simp [srt_nil]⟩
  | succ j ih =>
    obtain ⟨h1, h2, h3⟩ := ih
    by_cases hj : j < l.length
    · have hx : l[j]? = some l[j] := List.getElem?_eq_getElem hj
      rw [srt_take hx]
      refine ⟨asc_ins h1, fun x => ?_, by have := ins_len l[j] (srt (l.take j)); omega⟩
      rw [mem_ins, h2, take_snoc hx, List.mem_append, List.mem_singleton]
      constructor
      · rintro (h | h)
        · exact .inr h
        · exact .inl h
      · rintro (h | h)
        · exact .inr h
        · exact .inl h
    · rw [List.take_of_length_le (by omega)] at h1 h2 h3
      rw [List.take_of_length_le (by omega)]
      exact ⟨h1, h2, by omega⟩
theorem srt_asc (l : List ByteArray) : Asc (srt l) := by
  have := (srt_facts l l.length).1
  rwa [List.take_length] at this
theorem srt_mem {l : List ByteArray} {x : ByteArray} : x ∈ srt l ↔ x ∈ l := by
  have := (srt_facts l l.length).2.1 x
  rwa [List.take_length] at this
theorem srt_len (l : List ByteArray) : (srt l).length ≤ l.length := by
  have := (srt_facts l l.length).2.2
  rwa [List.take_length] at this
theorem srt_is {l m : List ByteArray} (h : Asc m) (hm : ∀ x, x ∈ m ↔ x ∈ l) : m = srt l := asc_ext h (srt_asc l) fun x => (hm x).trans srt_mem.symm
/-- The place of each element. -/
def idx (l : List ByteArray) : List Nat := l.map fun s => plc s (srt l)
theorem idx_len (l : List ByteArray) : (idx l).length = l.length := List.length_map _
theorem idx_lt (l : List ByteArray) : ∀ i ∈ idx l, i < (srt l).length := by
  intro i hi
  simp only [idx, List.mem_map] at hi
  obtain ⟨s, hs, rfl⟩ := hi
  exact (plc_mem (srt_asc l) (srt_mem.2 hs)).1
theorem idx_at {l : List ByteArray} {j : Nat} {s : ByteArray} (h : l[j]? = some s) : (idx l)[j]? = some (plc s (srt l)) := by simp [idx, h]
theorem idx_back {l : List ByteArray} {j : Nat} {s : ByteArray} (h : l[j]? = some s) : (srt l)[plc s (srt l)]? = some s := (plc_mem (srt_asc l) (srt_mem.2 (List.mem_of_getElem? h))).2

/-! joining two ascending lists -/
def MI (a b m a' b' : List ByteArray) : Prop := Asc m ∧ Asc a' ∧ Asc b' ∧ (∀ x ∈ m, ∀ y ∈ a', lts x y = true) ∧ (∀ x ∈ m, ∀ y ∈ b', lts x y = true) ∧ (∀ x, x ∈ a ∨ x ∈ b ↔ x ∈ m ∨ x ∈ a' ∨ x ∈ b') ∧ m.length + a'.length + b'.length ≤ a.length + b.length
theorem MI.start {a b : List ByteArray} (ha : Asc a) (hb : Asc b) : MI a b [] a b := ⟨Asc.nil, ha, hb, by simp, by simp, by simp, by simp⟩
section
variable {a b m r t a' b' : List ByteArray} {x y : ByteArray}
theorem MI.left (h : MI a b m (x :: r) (y :: t)) (hxy : lts x y = true) : MI a b (m ++ [x]) r (y :: t) := by
  obtain ⟨h1, h2, h3, h4, h5, h6, h7⟩ := h
  obtain ⟨h21, h22⟩ := List.pairwise_cons.1 h2
  obtain ⟨h31, h32⟩ := List.pairwise_cons.1 h3
  refine ⟨asc_app h1 (Asc.one x) (fun z hz w hw => by rw [List.mem_singleton.1 hw]; exact h4 z hz x (List.mem_cons_self ..)), h22, h3, ?_, ?_, ?_, by simp at h7 ⊢; omega⟩
  · intro z hz w hw
    rcases List.mem_append.1 hz with hz | hz
    · exact h4 z hz w (List.mem_cons_of_mem _ hw)
    · rw [List.mem_singleton.1 hz]; exact h21 w hw
  · intro z hz w hw
    rcases List.mem_append.1 hz with hz | hz
    · exact h5 z hz w hw
    · rw [List.mem_singleton.1 hz]
      rcases List.mem_cons.1 hw with hw | hw
      · rw [hw]; exact hxy
      · exact lts_trans hxy (h31 w hw)
  · intro z
    rw [h6 z, List.mem_append, List.mem_singleton, List.mem_cons]
    constructor
    · rintro (h | (h | h) | h)
      · exact .inl (.inl h)
      · exact .inl (.inr h)
      · exact .inr (.inl h)
      · exact .inr (.inr h)
    · rintro ((h | h) | h | h)
      · exact .inl h
      · exact .inr (.inl (.inl h))
      · exact .inr (.inl (.inr h))
      · exact .inr (.inr h)
theorem MI.right (h : MI a b m (x :: r) (y :: t)) (hxy : lts y x = true) : MI a b (m ++ [y]) (x :: r) t := by
  obtain ⟨h1, h2, h3, h4, h5, h6, h7⟩ := h
  obtain ⟨h21, h22⟩ := List.pairwise_cons.1 h2
  obtain ⟨h31, h32⟩ := List.pairwise_cons.1 h3
  refine ⟨asc_app h1 (Asc.one y) (fun z hz w hw => by rw [List.mem_singleton.1 hw]; exact h5 z hz y (List.mem_cons_self ..)), h2, h32, ?_, ?_, ?_, by simp at h7 ⊢; omega⟩
  · intro z hz w hw
    rcases List.mem_append.1 hz with hz | hz
    · exact h4 z hz w hw
    · rw [List.mem_singleton.1 hz]
      rcases List.mem_cons.1 hw with hw | hw
      · rw [hw]; exact hxy
      · exact lts_trans hxy (h21 w hw)
  · intro z hz w hw
    rcases List.mem_append.1 hz with hz | hz
    · exact h5 z hz w (List.mem_cons_of_mem _ hw)
    · rw [List.mem_singleton.1 hz]; exact h31 w hw
  · intro z
    rw [h6 z, List.mem_append, List.mem_singleton, List.mem_cons (b := y)]
    constructor
    · rintro (h | h | (h | h))
      · exact .inl (.inl h)
      · exact .inr (.inl h)
      · exact .inl (.inr h)
      · exact .inr (.inr h)
    · rintro ((h | h) | h | h)
      · exact .inl h
      · exact .inr (.inr (.inl h))
      · exact .inr (.inl h)
      · exact .inr (.inr (.inr h))
theorem MI.both (h : MI a b m (x :: r) (x :: t)) : MI a b (m ++ [x]) r t := by
  obtain ⟨h1, h2, h3, h4, h5, h6, h7⟩ := h
  obtain ⟨h21, h22⟩ := List.pairwise_cons.1 h2
  obtain ⟨h31, h32⟩ := List.pairwise_cons.1 h3
  refine ⟨asc_app h1 (Asc.one x) (fun z hz w hw => by rw [List.mem_singleton.1 hw]; exact h5 z hz x (List.mem_cons_self ..)), h22, h32, ?_, ?_, ?_, by simp at h7 ⊢; omega⟩
  · intro z hz w hw
    rcases List.mem_append.1 hz with hz | hz
    · exact h4 z hz w (List.mem_cons_of_mem _ hw)
    · rw [List.mem_singleton.1 hz]; exact h21 w hw
  · intro z hz w hw
    rcases List.mem_append.1 hz with hz | hz
    · exact h5 z hz w (List.mem_cons_of_mem _ hw)
    · rw [List.mem_singleton.1 hz]; exact h31 w hw
  · intro z
    rw [h6 z, List.mem_append, List.mem_singleton, List.mem_cons, List.mem_cons]
    constructor
    · rintro (h | (h | h) | (h | h))
      · exact .inl (.inl h)
      · exact .inl (.inr h)
      · exact .inr (.inl h)
      · exact .inl (.inr h)
      · exact .inr (.inr h)
    · rintro ((h | h) | h | h)
      · exact .inl h
      · exact .inr (.inl (.inl h))
      · exact .inr (.inl (.inr h))
      · exact .inr (.inr (.inr h))
theorem MI.done (h : MI a b m a' b') (he : a' = [] ∨ b' = []) : m ++ a' ++ b' = srt (a ++ b) := by
  obtain ⟨h1, h2, h3, h4, h5, h6, _⟩ := h
  have hm : ∀ x, x ∈ m ++ a' ++ b' ↔ x ∈ a ++ b := by
    intro x
    rw [List.mem_append, List.mem_append, List.mem_append, h6 x, or_assoc]
  refine srt_is ?_ hm
  rcases he with rfl | rfl
  · rw [List.append_nil]; exact asc_app h1 h3 h5
  · rw [List.append_nil]; exact asc_app h1 h2 h4
end
theorem srt_halves (l : List ByteArray) (n : Nat) : srt (srt (l.take n) ++ srt (l.drop n)) = srt l := by
  refine asc_ext (srt_asc _) (srt_asc _) fun x => ?_
  rw [srt_mem, List.mem_append, srt_mem, srt_mem, srt_mem, ← List.mem_append, List.take_append_drop]
theorem srt_small {l : List ByteArray} (h : l.length < 2) : srt l = l := by
  match l, h with
  | [], _ => rfl
  | [x], _ => exact (srt_is (Asc.one x) fun _ => Iff.rfl).symm

/-! the encoding -/
def wrd (w : ByteArray) : List UInt8 := putL w.size ++ w.data.toList
def wrds (ws : List ByteArray) : List UInt8 := (ws.map wrd).flatten
theorem wrds_nil : wrds [] = [] := rfl
theorem wrds_cons (w : ByteArray) (ws : List ByteArray) : wrds (w :: ws) = wrd w ++ wrds ws := rfl
theorem wrds_app (a b : List ByteArray) : wrds (a ++ b) = wrds a ++ wrds b := by unfold wrds; rw [List.map_append, List.flatten_append]
theorem wrds_snoc (a : List ByteArray) (w : ByteArray) : wrds (a ++ [w]) = wrds a ++ wrd w := by rw [wrds_app, wrds_cons, wrds_nil, List.append_nil]
theorem wrds_take {ws : List ByteArray} {j : Nat} {w : ByteArray} (h : ws[j]? = some w) : wrds (ws.take (j + 1)) = wrds (ws.take j) ++ wrd w := by rw [take_snoc h, wrds_snoc]
theorem wrds_take_le (ws : List ByteArray) (j : Nat) : (wrds (ws.take j)).length ≤ (wrds ws).length := by
  have := wrds_app (ws.take j) (ws.drop j)
  rw [List.take_append_drop] at this
  rw [this, List.length_append]; omega
def wdt (k : Nat) : Nat := wid (k - 1)
theorem wdt_le {k : Nat} (h : k ≤ 4096) : wdt k ≤ 12 := (wid_le 12 _).2 (by simp; omega)
theorem wdt_lt {k i : Nat} (h : i < k) : i < 2 ^ wdt k := by
  have := (wid_le (wdt k) (k - 1)).1 (Nat.le_refl _)
  omega
/-- The encoding of words and indices. -/
def encW (ws : List ByteArray) (u : List Nat) : List UInt8 := putL ws.length ++ wrds ws ++ packed u (wdt ws.length)
def encD (l : List ByteArray) : List UInt8 := if 4096 < l.length then [] else encW (srt l) (idx l)
theorem encD_in {l : List ByteArray} (h : l.length ≤ 4096) : encD l = encW (srt l) (idx l) := by unfold encD; rw [if_neg (by omega)]
theorem encD_out {l : List ByteArray} (h : 4096 < l.length) : encD l = [] := by unfold encD; rw [if_pos h]
theorem packed_le {u : List Nat} {w : Nat} (h : u.length ≤ 4096) (hw : w ≤ 12) : (packed u w).length ≤ 6144 := by
  have : u.length * w ≤ 4096 * 12 := Nat.mul_le_mul h hw
  rw [packed_len]; omega

/-! reading -/
section
variable {s : ByteArray} {k : Nat} {p : Int} {ws : List ByteArray} {x : ByteArray} {q : Int}
end
section
variable {s : ByteArray} {n : Nat} {a : Nat} {b : Int} {ws : List ByteArray} {q : Nat} {u : List Nat} {c : Nat}
end
end Go.DI

namespace Go.DI
open Go.RowKit Go.VB Go.VarM Go.BP Go.RL

theorem list_inj {s t : ByteArray} (h : s.data.toList = t.data.toList) : s = t := by
  rw [← str_of s, ← str_of t, h]
end Go.DI

namespace Go.VB
open Go.RowKit Go.ChangeShapes Go.WideShapes Go.ChangeAt
/-- append(s, x...) onto a row of the call's own, as one step of a region that draws. -/
theorem step_appV {α : Type} {f : α → Value} {P : Program} {ops : Array Oper} {o : Oper} {a : Act} {w : World} {K : Act → World → Prop} {Q : Exit → Act → World → Prop} {E : Prop} (hone : ∀ x : α, (f x).oneCell' = true) (z : Value) (hz1 : z.cells.size = 1)
    (hg : o.guard = none) (s x : Operand) (t : TypeId) (hop : o.op = Op.call { callee := Callee.builtin Builtin.append, args := #[s, x], argTypes := #[t, t] })
    (base : Nat) (e : TypeId) (bytes : Nat) (ht : P.underlying t = some (.slice e)) (hinfo : (P.info? e).map (fun i => (i.zero, i.size, i.bytes)) = some (some z, 1, bytes))
    (v : Value) (l : List α) (hs : a.eval s = v) (hown : OwnV f e w base v l) (B : Nat) (vx : Value) (y : α) (hx : a.eval x = vx) (hr : RdV f w B vx [y])
    (hlen : l.length + 1 ≤ maxLen) (hbytes : (l.length + 1) * bytes ≤ 140737488355328) (hbase : base ≤ w.heap.size)
    (hK : ∀ v' w', OwnV f e w' base v' (l ++ [y]) → Below base w w' → w.grownBy w' v.ownBlock → K (a.put o.dst v') w') :
    if Region.wanted o (yielded ops a.tmps) = true then Oper.wp P o a w K Q else E := by
  have hw : Region.wanted o (yielded ops a.tmps) = true := by simp [Region.wanted, hg]
  rw [if_pos hw]
  obtain ⟨i, hi, hz, hsz, hby⟩ := info_parts hinfo
  obtain ⟨A, c, rfl, hc, hm, hcell⟩ := hr
  obtain ⟨ad, rfl, _, _⟩ := hcell 0 y rfl
  obtain ⟨v', w', hrun, r1, r2, _⟩ := run_append_own (P := P) w base t o.type e i z 1 bytes ht hi hz hsz hby hz1 (by decide) v l.length (l.map f) hown ad 1 c [f y] rfl
    (fun j u hj => by
      obtain ⟨hj1, he⟩ := List.getElem?_eq_some_iff.1 hj
      have hj0 : j = 0 := by simp at hj1; exact hj1
      subst hj0
      obtain ⟨ad', h1, _, h3⟩ := hcell 0 y rfl
      cases h1
      rw [h3]; simpa using he)
    (fun u hu => by rw [List.mem_singleton.1 hu]; exact hone y) hlen hbytes hbase
  unfold Oper.wp
  simp [execOp, hop, resolve, invoke, builtin, hs, hx, hrun, Result.andThen]
  refine hK v' w' ?_ ((Below.refl _ _).grown r2 hbase (fun b hb => (OwnV.lt hown b hb).1)) r2
  unfold OwnV
  rw [List.length_append, List.map_append]
  exact r1
/-- make([]T, 0, n). -/
theorem run_makeV0 {P : Program} {t e : TypeId} {bytes : Nat} {z : Value} (hz1 : z.cells = #[z]) (ht : P.underlying t = some (.slice e)) (hinfo : (P.info? e).map (fun i => (i.zero, i.size, i.bytes)) = some (some z, 1, bytes))
    (n : Nat) (hb : bytes * n ≤ 281474976710656) (hm : n ≤ maxLen) (w : World) :
    (Instr.makeSlice t (.int .i64 0) (.int .i64 (n : Int))).run P w = .ok (.slice (some ⟨w.heap.size, 0, none⟩) 0 n) (w.alloc (.cells (madeCells #[z] n) e)) := by
  obtain ⟨i, hi, hz, hsz, hby⟩ := info_parts hinfo
  unfold maxLen at hm
  have h := run_make (P := P) w t e i z ht hi hz .i64 .i64 0 n (by omega) (by omega) (by rw [hby, ← Int.natCast_mul]; omega) (by omega)
  rw [Int.toNat_natCast, hsz, Nat.mul_one, hz1] at h
  exact h
/-- The length of a slice. -/
def lenS : Value → Nat
  | .slice _ n _ => n
  | _ => 0
theorem RdV.block {α : Type} {f : α → Value} {w : World} {B c n : Nat} {ad : Addr} {l : List α} (h : RdV f w B (.slice (some ad) n c) l) (hl : l ≠ []) : ad.block < B := by
  obtain ⟨A, c', hv, _, _, hr⟩ := h
  cases hv
  cases l with
  | nil => exact absurd rfl hl
  | cons x l => obtain ⟨ad', h1, h2, _⟩ := hr 0 x rfl; cases h1; exact h2
theorem RdV.at {α : Type} {f : α → Value} {w : World} {B c n : Nat} {A : Option Addr} {l : List α} (h : RdV f w B (.slice A n c) l) {i : Nat} {x : α} (hx : l[i]? = some x) : ∃ ad, A = some ad ∧ ad.block < B ∧ w.cell? (ad.add i) = some (f x) := by
  obtain ⟨A', c', hv, _, _, hr⟩ := h
  cases hv
  exact hr i x hx
theorem RdV.bds {α : Type} {f : α → Value} {w : World} {B : Nat} {v : Value} {l : List α} (h : RdV f w B v l) : ∃ A c n, v = .slice A n c ∧ n = l.length ∧ n ≤ c ∧ c ≤ 9223372036854775807 := by
  obtain ⟨A, c, rfl, h1, h2, _⟩ := h
  exact ⟨A, c, _, rfl, rfl, h1, h2⟩
/-- l[1:], as the walk spells it. -/
theorem RdV.tail1 {α : Type} {f : α → Value} {w : World} {B c n : Nat} {ad : Addr} {x : α} {l : List α} (h : RdV f w B (.slice (some ad) n c) (x :: l)) : RdV f w B (.slice (if c = 1 then some ad else some ⟨ad.block, ad.off + 1, none⟩) (n - 1) (c - 1)) l := by
  obtain ⟨A', c', hv, hc, hm, _⟩ := id h
  cases hv
  have ht := h.tail 1 (by simp)
  by_cases h1 : c = 1
  · have hl : l = [] := by simp at hc; exact List.eq_nil_of_length_eq_zero (by omega)
    subst hl
    rw [if_pos h1]
    exact ⟨_, _, rfl, by simp, by omega, fun i x hi => by simp at hi⟩
  · rw [if_neg h1]
    exact ht
theorem RdV.tailA {α : Type} {f : α → Value} {w : World} {B c n : Nat} {ad : Addr} {x : α} {l : List α} (h : RdV f w B (.slice (some ad) n c) (x :: l)) (hc : c = 1) : RdV f w B (.slice (some ad) (n - 1) 0) l := by
  subst hc; exact h.tail1
theorem RdV.tailB {α : Type} {f : α → Value} {w : World} {B c n : Nat} {ad : Addr} {x : α} {l : List α} (h : RdV f w B (.slice (some ad) n c) (x :: l)) (hc : ¬ c = 1) : RdV f w B (.slice (some ⟨ad.block, ad.off + 1, none⟩) (n - 1) (c - 1)) l := by
  have := h.tail1
  rwa [if_neg hc] at this
/-- []T{}. -/
theorem OwnV.empty {α : Type} (f : α → Value) (e : TypeId) (w : World) (base c : Nat) (hb : base ≤ w.heap.size) (cur : Array Value) (hc : cur.size = c) (hm : c ≤ maxLen) : OwnV f e (w.alloc (.cells cur e)) base (.slice (some ⟨w.heap.size, 0, none⟩) 0 c) [] :=
  World.ownsRow_made w cur c hb hm (by rw [hc, Nat.mul_one])
/-- It returns two lists; what was there is as it was. -/
def Ret2 {α β : Type} (f : α → Value) (g : β → Value) (l : List α) (m : List β) (w : World) : Ending → World → Prop := fun en w' =>
  ∃ v u, en = .returned (.tuple #[v, u]) ∧ RdV f w' w'.heap.size v l ∧ RdV g w' w'.heap.size u m ∧ Below w.heap.size w w'
theorem Ret2.mk {α β : Type} {f : α → Value} {g : β → Value} {l : List α} {m : List β} {w w' : World} {x v u : Value} (hx : x = .tuple #[v, u]) (hv : RdV f w' w'.heap.size v l) (hu : RdV g w' w'.heap.size u m) (hb : Below w.heap.size w w') : Ret2 f g l m w (.returned x) w' :=
  ⟨v, u, by rw [hx], hv, hu, hb⟩
theorem RowV.grown {α : Type} {f : α → Value} {e : TypeId} {w : World} {base g c : Nat} {l : List α} (h : RowV f e w base g c l) (j : Nat) (x : α) : w.grownBy (w.setCell ⟨g, j, none⟩ (f x)) (some g) := (World.ownsRow.stored h j (f x)).2
theorem fill_set {α : Type} {l : List α} {n j : Nat} {x z : α} (hl : l.length = n) (hj : j < n) (hx : l[j]? = some x) : (l.take j ++ List.replicate (n - j) z).set j x = l.take (j + 1) ++ List.replicate (n - (j + 1)) z := by
  have ht : (l.take j).length = j := by rw [List.length_take]; omega
  rw [List.set_append_right _ _ (by omega), ht, Nat.sub_self, show n - j = (n - (j + 1)) + 1 from by omega, List.replicate_succ, List.set_cons_zero, List.take_add_one, hx, List.append_assoc]
  rfl
theorem fill_end {α : Type} {l : List α} {n : Nat} {z : α} (hl : l.length = n) : l.take n ++ List.replicate (n - n) z = l := by rw [Nat.sub_self, List.replicate_zero, List.append_nil, ← hl, List.take_length]
theorem fill_start {α : Type} (l : List α) (n : Nat) (z : α) : List.replicate n z = l.take 0 ++ List.replicate (n - 0) z := by simp
theorem fill_len {α : Type} {l : List α} {n j : Nat} {z : α} (hl : l.length = n) (hj : j ≤ n) : (l.take j ++ List.replicate (n - j) z).length = n := by rw [List.length_append, List.length_take, List.length_replicate]; omega
/-- Indices as a slice's elements. -/
def nI (n : Nat) : Value := .int .i64 (n : Int)
section
variable {H : Type} {enc : TypeId × Value → H} {P : Program}
end
end Go.VB

namespace Go.VB
open Go.RowKit
/-- The slice v, of bytes, is the call's own, not nil, and holds bs. -/
def OwnF (w : World) (base : Nat) (v : Value) (bs : List UInt8) : Prop :=
  ∃ g c, v = .slice (some ⟨g, 0, none⟩) bs.length c ∧ base ≤ g ∧ g < w.heap.size ∧ bs.length ≤ c ∧ c ≤ maxLen ∧ (∀ j, j < c → (w.cell? ⟨g, j, none⟩).isSome = true ∧ w.frozen? ⟨g, j, none⟩ = false) ∧ ∀ j b, bs[j]? = some b → w.cell? ⟨g, j, none⟩ = some (bv b)
theorem OwnF.below {w w' : World} {base : Nat} {v : Value} {bs : List UInt8} (h : OwnF w base v bs) (hb : Below w.heap.size w w') : OwnF w' base v bs := by
  obtain ⟨g, c, hv, h1, h2, h3, h4, h5, h6⟩ := h
  refine ⟨g, c, hv, h1, Nat.lt_of_lt_of_le h2 hb.size, h3, h4, fun j hj => ?_, fun j b hj => ?_⟩
  · rw [hb.cell (show (⟨g, j, none⟩ : Addr).block < w.heap.size from h2), hb.frozen (show (⟨g, j, none⟩ : Addr).block < w.heap.size from h2)]; exact h5 j hj
  · rw [hb.cell (show (⟨g, j, none⟩ : Addr).block < w.heap.size from h2)]; exact h6 j b hj
theorem OwnF.drew {w : World} {base : Nat} {v : Value} {bs : List UInt8} (h : OwnF w base v bs) : OwnF w.drew base v bs := h
/-- A row of bytes laid in a new block whose cells below its capacity can be written. -/
theorem OwnF.laid {w : World} {base c : Nat} {e : TypeId} {bs : List UInt8} {cur : Array Value} {fz : Nat × Nat} (hb : base ≤ w.heap.size) (hc : bs.length ≤ c) (hm : c ≤ maxLen) (hs : cur.size = c) (hf : fz.2 = 0 ∨ c ≤ fz.1) (hcur : ∀ (j : Nat) b, bs[j]? = some b → cur[j]? = some (bv b)) :
    OwnF (w.alloc (.cells cur e fz)) base (.slice (some ⟨w.heap.size, 0, none⟩) bs.length c) bs := by
  have hh : (w.alloc (.cells cur e fz)).heap[w.heap.size]? = some (.cells cur e fz) := by
    show (w.heap.push (.cells cur e fz))[w.heap.size]? = _
    simp
  have hcell : ∀ j, (w.alloc (.cells cur e fz)).cell? ⟨w.heap.size, j, none⟩ = cur[j]? := fun j => by
    unfold World.cell?
    simp only [hh]
    rfl
  refine ⟨w.heap.size, c, rfl, hb, by simp, hc, hm, fun j hj => ⟨?_, ?_⟩, fun j b hj => ?_⟩
  · rw [hcell, Array.getElem?_eq_getElem (by omega)]; rfl
  · unfold World.frozen?
    simp only [hh]
    rcases hf with hf | hf
    · simp [hf]
    · have : ¬ fz.1 ≤ j := by omega
      simp [this]
  · rw [hcell]; exact hcur j b hj
theorem grown_setCells (g : Nat) : ∀ (vs : List Value) (o : Nat) (w : World), w.grownBy (w.setCells g o vs) (some g)
  | [], _, w => World.grownBy.refl w _
  | v :: r, o, w => by
    have h := grown_setCells g r (o + 1) (w.setCell ⟨g, o, none⟩ v)
    exact ⟨h.os, h.tape, h.output, Nat.le_trans (by simp [World.setCell]) h.size, fun k hk hne => (h.block k (by simpa [World.setCell] using hk) hne).trans (Below.heap_setCell _ _ _ _ (fun e => hne (by rw [e])))⟩
section
variable {P : Program}
/-- append(b, s...), s a text. -/
theorem run_appF (w : World) (base : Nat) (t u ty e : TypeId) (ht : P.underlying t = some (.slice e)) (hu : P.underlying u = some .string) (hinfo : (P.info? e).map (fun i => (i.zero, i.size, i.bytes)) = some (some (.int .u8 0), 1, 1))
    (v : Value) (bs : List UInt8) (hown : OwnF w base v bs) (s : ByteArray) (hlen : bs.length + s.size ≤ 225179981368000) (hbase : base ≤ w.heap.size) :
    ∃ v' w', (Builtin.append_ #[t, u] ty #[v, .string s]).run P w = .ok v' w' ∧ OwnF w' base v' (bs ++ s.data.toList) ∧ w.grownBy w' v.ownBlock := by
  obtain ⟨i, hi, hz, hsz, hby⟩ := info_parts hinfo
  obtain ⟨g, c, rfl, h1, h2, h3, h4, h5, h6⟩ := hown
  have hsl := Lib.strCells_length s
  by_cases hroom : bs.length + s.size ≤ c
  · have hf := Lib.run_firstCells_string (P := P) w 1 s
    have hst := run_storeCells_cells (P := P) g bs.length (Lib.strCells s) 0 w (fun j hj => (h5 _ (by omega)).1) (fun j hj => (h5 _ (by omega)).2) (Lib.strCells_oneCell s)
    simp only [Nat.add_zero] at hst
    have hg := grown_setCells g (Lib.strCells s) bs.length w
    refine ⟨.slice (some ⟨g, 0, none⟩) (bs.length + s.size) c, w.setCells g bs.length (Lib.strCells s), ?_, ?_, hg⟩
    · simp [Builtin.append_, run_underlying ht, run_underlying hu, sizeOf, typeInfo, hi, hsz, Builtin.lenOf, hroom, hf, Addr.add_lit, hst]
    · refine ⟨g, c, by rw [List.length_append, size_list], h1, Nat.lt_of_lt_of_le h2 hg.size, by rw [List.length_append, size_list]; exact hroom, h4, fun j hj => ⟨?_, ?_⟩, fun j b hj => ?_⟩
      · by_cases hin : bs.length ≤ j ∧ j < bs.length + (Lib.strCells s).length
        · obtain ⟨k, rfl⟩ : ∃ k, j = bs.length + k := ⟨j - bs.length, by omega⟩
          rw [World.cell?_setCells_in g (Lib.strCells s) bs.length w (fun j hj => (h5 _ (by omega)).1) k (by omega)]; rfl
        · rw [World.cell?_setCells_out g (Lib.strCells s) bs.length w _ (fun _ _ => by simp only; omega)]; exact (h5 j hj).1
      · rw [World.frozen?_setCells]; exact (h5 j hj).2
      · by_cases hin : j < bs.length
        · rw [World.cell?_setCells_out g (Lib.strCells s) bs.length w _ (fun _ _ => .inl hin)]
          rw [List.getElem?_append_left hin] at hj
          exact h6 j b hj
        · rw [List.getElem?_append_right (by omega)] at hj
          obtain ⟨k, rfl⟩ : ∃ k, j = bs.length + k := ⟨j - bs.length, by omega⟩
          rw [Nat.add_sub_cancel_left] at hj
          have hk : k < (Lib.strCells s).length := by rw [hsl, ← size_list]; exact (List.getElem?_eq_some_iff.1 hj).1
          rw [World.cell?_setCells_in g (Lib.strCells s) bs.length w (fun j hj => (h5 _ (by omega)).1) k hk]
          have e1 : (Lib.strCells s)[k]? = some (bv b) := by rw [strCells_bv, List.getElem?_map, hj]; rfl
          rw [← e1, List.getElem?_eq_getElem hk]
  · have holds : ∀ j u, (bs.map bv)[j]? = some u → w.cell? ((⟨g, 0, none⟩ : Addr).add j) = some u := fun j u hj => by
      rw [List.getElem?_map] at hj
      cases hb : bs[j]? with
      | none => rw [hb] at hj; simp at hj
      | some b =>
        rw [hb] at hj
        simp only [Option.map_some, Option.some.injEq] at hj
        subst hj
        rw [Addr.add_lit, Nat.zero_add]
        exact h6 j b hb
    have hnx := next_le (need := bs.length + s.size) (old := c) (by omega)
    have hxl : (bs.map bv).length = bs.length := List.length_map _
    have hr := Lib.run_append_grow_string (P := P) w t u ty e i (.int .u8 0) ht hu hi hz ⟨g, 0, none⟩ bs.length c (bs.map bv) (by rw [hsz, hxl, Nat.mul_one]) holds s (by omega) (by omega) (by rw [hby]; omega)
    have hge := grownCap_ge w (bs.length + s.size) c e
    have hcm2 := grownCap_le_maxLen w (bs.length + s.size) c e (by unfold maxLen; omega)
    have hz1 : (Value.int IntKind.u8 0).cells.size = 1 := rfl
    have hown := OwnF.laid (w := w.drew) (base := base) (c := grownCap w (bs.length + s.size) c e) (e := e) (bs := bs ++ s.data.toList) (cur := (bs.map bv).toArray ++ (Lib.strCells s).toArray ++ Builtin.zeroCells (Value.int IntKind.u8 0).cells (grownCap w (bs.length + s.size) c e - (bs.length + s.size))) (fz := (0, 0)) hbase
      (by rw [List.length_append, size_list]; exact hge) hcm2 (by simp only [Array.size_append, List.size_toArray, size_zeroCells, hz1, hxl, hsl]; omega) (.inl rfl) (fun j b hj => by
        rw [strCells_bv]
        have hjl : j < (bs ++ s.data.toList).length := (List.getElem?_eq_some_iff.1 hj).1
        have e1 : (bs.map bv).toArray ++ (s.data.toList.map bv).toArray = ((bs ++ s.data.toList).map bv).toArray := by rw [List.map_append, List.append_toArray]
        rw [e1, Array.getElem?_append_left (by rw [List.size_toArray, List.length_map]; exact hjl), List.getElem?_toArray, List.getElem?_map, hj]; rfl)
    rw [List.length_append, size_list] at hown
    exact ⟨_, _, hr, hown, rfl, rfl, rfl, by simp, fun k hk _ => heap_alloc_old w.drew _ hk⟩
theorem wpl_appF {w : World} {ops : Array Oper} {rest : List Oper} {o : Oper} {a : Act} {Q : Exit → Act → World → Prop} (hgd : o.guard = none) (sl x : Operand) (t u : TypeId)
    (ho : o.op = .call { callee := .builtin .append, args := #[sl, x], argTypes := #[t, u] })
    (base : Nat) (e : TypeId) (ht : P.underlying t = some (.slice e)) (hu : P.underlying u = some .string) (hinfo : (P.info? e).map (fun i => (i.zero, i.size, i.bytes)) = some (some (.int .u8 0), 1, 1))
    (v : Value) (bs : List UInt8) (hs : a.eval sl = v) (hown : OwnF w base v bs) (s : ByteArray) (hx : a.eval x = .string s) (hlen : bs.length + s.size ≤ 225179981368000) (hbase : base ≤ w.heap.size)
    (h : ∀ v' w', OwnF w' base v' (bs ++ s.data.toList) → Below base w w' → wpList P ops Q rest (a.put o.dst v') w') : wpList P ops Q (o :: rest) a w := by
  refine wpList_plain hgd fun K hK => ?_
  obtain ⟨v', w', hr, h2, h3⟩ := run_appF (P := P) w base t u o.type e ht hu hinfo v bs hown s hlen hbase
  have hbel : Below base w w' := (Below.refl _ _).grown h3 hbase (fun b hb => by
    obtain ⟨g, c, rfl, h1, _⟩ := hown
    simp [Value.ownBlock] at hb
    omega)
  unfold Oper.wp execOp
  simp only [ho, resolve, invoke, builtin, Sem.run_bind, Sem.run_pure, Result.andThen_ok, List.map_toArray, List.map_cons, List.map_nil, hs, hx, hr]
  exact hK _ _ (h v' w' h2 hbel)
/-- string(b). -/
theorem run_string_of_F {w : World} (src dst e : TypeId) {base : Nat} {v : Value} {bs : List UInt8}
    (hs : P.underlying src = some (.slice e)) (he : P.underlying e = some (.int .u8)) (hd : P.underlying dst = some .string) (h : OwnF w base v bs) :
    (convert src dst v).run P w = .ok (.string (str bs)) w := by
  obtain ⟨g, c, rfl, _, _, _, _, _, h6⟩ := h
  refine run_string_of_row w src dst e _ _ c bs hs he hd rfl ?_
  have := run_loadCells_list (P := P) (w := w) ⟨g, 0, none⟩ (bs.map bv) (fun j u hj => by
    rw [List.getElem?_map] at hj
    cases hb : bs[j]? with
    | none => rw [hb] at hj; simp at hj
    | some b =>
      rw [hb] at hj
      simp only [Option.map_some, Option.some.injEq] at hj
      subst hj
      rw [Addr.add_lit, Nat.zero_add]
      exact h6 j b hb)
  rw [List.length_map] at this
  exact this
/-- []byte(s). -/
theorem run_bytes_F (w : World) (base : Nat) (src dst e : TypeId) (s : ByteArray) (hs : P.underlying src = some .string) (hd : P.underlying dst = some (.slice e)) (he : P.underlying e = some (.int .u8)) (hz : s.size ≤ 4611686018427387904) (hb : base ≤ w.heap.size) :
    ∃ v' w', (convert src dst (.string s)).run P w = .ok v' w' ∧ OwnF w' base v' s.data.toList ∧ Below w.heap.size w w' := by
  have hge := grownCap_ge w s.size 0 e
  have hcm := grownCap_le_maxLen w s.size 0 e (by unfold maxLen; omega)
  have hr := run_bytes_of_string (P := P) w src dst e s hs hd he
  have hsz : (bytesRow s (grownCap w s.size 0 e)).size = grownCap w s.size 0 e := by
    unfold bytesRow
    have : s.data.size = s.size := rfl
    simp only [Array.size_append, Array.size_map, Array.size_replicate]; omega
  refine ⟨_, _, hr, ?_, ((Below.refl _ _).drew.alloc (Nat.le_refl _) _)⟩
  have := OwnF.laid (w := w.drew) (base := base) (c := grownCap w s.size 0 e) (e := e) (bs := s.data.toList) (cur := bytesRow s (grownCap w s.size 0 e)) (fz := ((bytesRow s (grownCap w s.size 0 e)).size, (bytesRow s (grownCap w s.size 0 e)).size + 1)) hb
    (by rw [size_list]; exact hge) hcm hsz (.inr (by simp only; omega)) (fun j b hj => by
      obtain ⟨hj1, he1⟩ := List.getElem?_eq_some_iff.1 hj
      have hj2 : j < s.data.size := by rw [size_list] at hj1; exact hj1
      rw [bytesRow_at s _ j hj2, ← he1]
      rfl)
  rw [size_list] at this
  exact this
end
end Go.VB

namespace Go.Proofs.YtnmlajmaffiigaaGreatDoor
open Go.RowKit Go.VB Go.VarM Go.BP Go.RL Go.DI
theorem Tryz.infStr : (Tryz.prog.info? 9).map (fun i => (i.zero, i.size, i.bytes)) = some (some (.string ⟨#[]⟩), 1, 16) := by kernel_rfl
theorem less_at {x y : ByteArray} {b : Bool} (h : lts x y = b) : Go.Op.bytesLess x.toList y.toList = b := h
set_option maxRecDepth 100000 in
set_option maxHeartbeats 4000000 in
theorem merge_any (va vb : Value) (a b : List ByteArray) (B : Nat) (w : World) (ha : RdV Value.string w B va a) (hb : RdV Value.string w B vb b) (hB : B ≤ w.heap.size) (hA : Asc a) (hC : Asc b) (hl : a.length + b.length ≤ 8796093022208) :
    Calls Tryz.prog 269 #[va, vb] w (RetV Value.string 9 (srt (a ++ b)) w) := by
  obtain ⟨A1, c1, rfl, h11, h12, ha'⟩ := ha
  have ha : RdV Value.string w B (.slice A1 a.length c1) a := ⟨A1, c1, rfl, h11, h12, ha'⟩
  obtain ⟨A2, c2, rfl, h21, h22, hb'⟩ := hb
  have hb : RdV Value.string w B (.slice A2 b.length c2) b := ⟨A2, c2, rfl, h21, h22, hb'⟩
  clear ha' hb'
  unfold maxLen at h12 h22
  have HI := Lib.hid (MI.start hA hC)
  have hmk := run_makeV0 (P := Tryz.prog) (t := 81) (z := .string ⟨#[]⟩) rfl Tryz.underlying81 Tryz.infStr (a.length + b.length) (by omega) (by unfold maxLen; omega) w
  rw [Int.natCast_add] at hmk
  have HA := Lib.hid ha; have HC := Lib.hid hb
  clear ha hb hA hC
  generalize hT : srt (a ++ b) = T
  have HT := Lib.hid hT; clear hT
  go_enter Tryz.func269, Tryz.ntmps269
  go_wp2
  go_loopw [0, 1, 5] (fun va vb vm wr => ∃ a' b' m, RdV Value.string w B va a' ∧ RdV Value.string w B vb b' ∧ MI a b m a' b' ∧ OwnV Value.string 9 wr w.heap.size vm m ∧ Below w.heap.size w wr) (fun va vb _ _ => lenS va + lenS vb)
  case atStart => exact ⟨a, b, [], HA.out, HC.out, HI.out, OwnV.made0 _ _ _ _ _ _ (Nat.le_refl _) (by unfold maxLen; omega), (Below.refl _ _).alloc (Nat.le_refl _) _⟩
  case round =>
    obtain ⟨a', b', m, hra, hrb, hmi, hown, hbel⟩ := hrel
    clear HI HA HC hmk
    have h7 := hmi.2.2.2.2.2.2
    have hfin := fun he => (MI.done hmi he).trans HT.out
    obtain ⟨Aa, ca, n, rfl, hna, ha1, ha2⟩ := hra.bds
    obtain ⟨Ab, cb, k, rfl, hnb, hb1, hb2⟩ := hrb.bds
    obtain ⟨Am, cm, _, rfl, rfl, hm1, hm2⟩ := hown.read.bds
    have hszr := hbel.size
    cases a' with
    | nil =>
      have hn0 : n = 0 := hna
      subst hn0
      have he := hfin (.inl rfl)
      have hlm : m.length + ([] : List ByteArray).length + b'.length ≤ 8796093022208 := by simp at h7 ⊢; omega
      have HE := Lib.hid he; have HRA := Lib.hid (hra.below (hbel.mono hB)); have HRB := Lib.hid (hrb.below (hbel.mono hB)); have HLM := Lib.hid hlm
      clear he hra hrb h7 hmi hfin hna hnb hlm
      go_wp2_with (first
        | (at_builtin; refine wpl_appV (f := Value.string) (fun _ => rfl) (.string ⟨#[]⟩) rfl rfl _ _ 81 rfl w.heap.size 9 16 Tryz.underlying81 Tryz.infStr _ m rfl hown B _ ([] : List ByteArray) rfl HRA.out (by have := HLM.out; unfold maxLen; omega) (by have := HLM.out; omega) hszr ?_; intro v' w' hown' hb' _; have hrb2 := HRB.out.below (hb'.mono hB); have hsz2 := hb'.size; clear hown)
        | (at_builtin; refine wpl_appV (f := Value.string) (fun _ => rfl) (.string ⟨#[]⟩) rfl rfl _ _ 81 rfl w.heap.size 9 16 Tryz.underlying81 Tryz.infStr v' (m ++ ([] : List ByteArray)) rfl hown' B _ b' rfl hrb2 (by have := HLM.out; rw [List.length_append]; unfold maxLen; omega) (by have := HLM.out; rw [List.length_append]; omega) (Nat.le_trans hszr hsz2) ?_; intro v2 w2 hown2 hb2 _))
      go_ret
      rw [HE.out] at hown2
      exact RetV.mk rfl hown2 ((hbel.trans hb').trans hb2)
    | cons x r =>
      cases b' with
      | nil =>
        have hk0 : k = 0 := hnb
        subst hk0
        have hn1 : 1 ≤ n := by rw [hna]; simp
        have he := hfin (.inr rfl)
        have hlm : m.length + (x :: r).length + ([] : List ByteArray).length ≤ 8796093022208 := by simp at h7 ⊢; omega
        have HE := Lib.hid he; have HRA := Lib.hid (hra.below (hbel.mono hB)); have HRB := Lib.hid (hrb.below (hbel.mono hB)); have HLM := Lib.hid hlm
        clear he hra hrb h7 hmi hfin hna hnb hlm
        go_wp2_with (first
          | (at_builtin; refine wpl_appV (f := Value.string) (fun _ => rfl) (.string ⟨#[]⟩) rfl rfl _ _ 81 rfl w.heap.size 9 16 Tryz.underlying81 Tryz.infStr _ m rfl hown B _ (x :: r) rfl HRA.out (by have := HLM.out; unfold maxLen; omega) (by have := HLM.out; omega) hszr ?_; intro v' w' hown' hb' _; have hrb2 := HRB.out.below (hb'.mono hB); have hsz2 := hb'.size; clear hown)
          | (at_builtin; refine wpl_appV (f := Value.string) (fun _ => rfl) (.string ⟨#[]⟩) rfl rfl _ _ 81 rfl w.heap.size 9 16 Tryz.underlying81 Tryz.infStr v' (m ++ (x :: r)) rfl hown' B _ ([] : List ByteArray) rfl hrb2 (by have := HLM.out; rw [List.length_append]; unfold maxLen; omega) (by have := HLM.out; rw [List.length_append]; omega) (Nat.le_trans hszr hsz2) ?_; intro v2 w2 hown2 hb2 _))
        go_ret
        rw [HE.out] at hown2
        exact RetV.mk rfl hown2 ((hbel.trans hb').trans hb2)
      | cons y t =>
        obtain ⟨ad, rfl, hab, hgx⟩ := (hra.below (hbel.mono hB)).at (i := 0) (x := x) rfl
        obtain ⟨bd, rfl, hbb, hgy⟩ := (hrb.below (hbel.mono hB)).at (i := 0) (x := y) rfl
        rw [addr_zero] at hgx hgy
        have hn1 : 1 ≤ n := by rw [hna]; simp
        have hk1 : 1 ≤ k := by rw [hnb]; simp
        have hn1' : (1 : Int) ≤ (n : Int) := by omega
        have hk1' : (1 : Int) ≤ (k : Int) := by omega
        have hra1 := hra.tail1
        have hrb1 := hrb.tail1
        have hml : m.length + 1 ≤ 8796093022208 := by simp at h7; omega
        have HL := Lib.hid (fun h => hmi.left (x := x) (y := y) h)
        have HR := Lib.hid (fun h => hmi.right (x := x) (y := y) h)
        have HM := Lib.hid hmi
        clear hmi h7 hfin hna hnb
        have HRA := Lib.hid hra; have HRB := Lib.hid hrb; have HRA1 := Lib.hid hra1; have HRB1 := Lib.hid hrb1; have HML := Lib.hid hml; have HBEL := Lib.hid hbel; have HOWN := Lib.hid hown
        clear hra hrb hra1 hrb1 hml hbel hown
        rcases lts_tri x y with hxy | hxy | hxy
        · have hd := less_at hxy
          have HXY := Lib.hid hxy; clear hxy
          go_wp2_with fail
          go_region
          go_wp2_with fail
          go_region_law (refine step_appV (f := Value.string) (fun _ => rfl) (.string ⟨#[]⟩) rfl rfl (.tmp 27) (.tmp 31) 81 rfl w.heap.size 9 16 Tryz.underlying81 Tryz.infStr (.slice Am m.length cm) m rfl (HOWN.out.drew.drew.alloc _) (wr.heap.size + 1) (.slice (some ⟨wr.heap.size, 0, none⟩) 1 1) x rfl (RdV.one _ _ _ _ _ (by decide) (by decide)) (by have := HML.out; unfold maxLen; omega) (by have := HML.out; omega) (by simp; omega) ?_; intro v' w' hown' hb' _)
          all_goals go_wp2_with fail
          all_goals go_roundw
          all_goals first
            | (simp only [lenS]; omega)
            | exact ⟨_, _, _, ⟨r, (by first | exact HRA.out.tailA (by assumption) | exact HRA.out.tailB (by assumption)), y :: t, HRB.out, m ++ [x], HL.out HXY.out, hown', ((HBEL.out.alloc hszr _).drew.drew).trans hb'⟩, rfl, rfl, rfl⟩
        · subst hxy
          have hd := less_at (lts_irr x)
          have hd2 := text_eq (s := x) (t := x) rfl
          go_wp2_with fail
          go_region
          go_wp2_with fail
          go_region
          go_wp2_with fail
          all_goals go_region_law (refine step_appV (f := Value.string) (fun _ => rfl) (.string ⟨#[]⟩) rfl rfl (.tmp 44) (.tmp 48) 81 rfl w.heap.size 9 16 Tryz.underlying81 Tryz.infStr (.slice Am m.length cm) m rfl (HOWN.out.drew.drew.drew.alloc _) (wr.heap.size + 1) (.slice (some ⟨wr.heap.size, 0, none⟩) 1 1) x rfl (RdV.one _ _ _ _ _ (by decide) (by decide)) (by have := HML.out; unfold maxLen; omega) (by have := HML.out; omega) (by simp; omega) ?_; intro v' w' hown' hb' _)
          all_goals go_wp2_with fail
          all_goals go_roundw
          all_goals first
            | (simp only [lenS]; omega)
            | exact ⟨_, _, _, ⟨r, (by first | exact HRA.out.tailA (by assumption) | exact HRA.out.tailB (by assumption)), t, (by first | exact HRB.out.tailA (by assumption) | exact HRB.out.tailB (by assumption)), m ++ [x], HM.out.both, hown', ((HBEL.out.alloc hszr _).drew.drew.drew).trans hb'⟩, rfl, rfl, rfl⟩
        · have hd := less_at (lts_asym hxy)
          have hd2 := text_ne (s := x) (t := y) (fun e => lts_ne hxy e.symm)
          have HXY := Lib.hid hxy; clear hxy
          go_wp2_with fail
          go_region
          go_wp2_with fail
          go_region
          go_wp2_with fail
          go_region_law (refine step_appV (f := Value.string) (fun _ => rfl) (.string ⟨#[]⟩) rfl rfl (.tmp 44) (.tmp 48) 81 rfl w.heap.size 9 16 Tryz.underlying81 Tryz.infStr (.slice Am m.length cm) m rfl (HOWN.out.drew.drew.drew.alloc _) (wr.heap.size + 1) (.slice (some ⟨wr.heap.size, 0, none⟩) 1 1) y rfl (RdV.one _ _ _ _ _ (by decide) (by decide)) (by have := HML.out; unfold maxLen; omega) (by have := HML.out; omega) (by simp; omega) ?_; intro v' w' hown' hb' _)
          all_goals go_wp2_with fail
          all_goals go_roundw
          all_goals first
            | (simp only [lenS]; omega)
            | exact ⟨_, _, _, ⟨x :: r, HRA.out, t, (by first | exact HRB.out.tailA (by assumption) | exact HRB.out.tailB (by assumption)), m ++ [y], HR.out HXY.out, hown', ((HBEL.out.alloc hszr _).drew.drew.drew).trans hb'⟩, rfl, rfl, rfl⟩
end Go.Proofs.YtnmlajmaffiigaaGreatDoor

namespace Go.Proofs.YtnmlajmaffiigaaGreatDoor
open Go.RowKit Go.VB Go.VarM Go.BP Go.RL Go.DI
set_option maxRecDepth 100000 in
set_option maxHeartbeats 4000000 in
theorem sort_any (n : Nat) : ∀ (v : Value) (l : List ByteArray) (B : Nat) (w : World), l.length ≤ n → RdV Value.string w B v l → B ≤ w.heap.size → l.length ≤ 8796093022208 →
    Calls Tryz.prog 252 #[v] w (RetV Value.string 9 (srt l) w) := by
  induction n with
  | zero =>
    intro v l B w hn hr hB _
    have hl : l = [] := List.eq_nil_of_length_eq_zero (by omega)
    subst hl
    obtain ⟨A, c, _, rfl, rfl, h1, h2⟩ := hr.bds
    have HR := Lib.hid (hr.below ((Below.refl B w).alloc hB (.cells #[] 9)))
    clear hr hn
    go_enter Tryz.func252, Tryz.ntmps252
    go_wp2_with (first
      | (at_builtin; refine wpl_appV (f := Value.string) (fun _ => rfl) (.string ⟨#[]⟩) rfl rfl _ _ 81 rfl w.heap.size 9 16 Tryz.underlying81 Tryz.infStr _ [] rfl (OwnV.empty _ _ _ _ 0 (Nat.le_refl _) _ rfl (by decide)) B _ [] rfl HR.out (by decide) (by decide) (by simp) ?_; intro v' w' hown' hb' _))
    go_ret
    rw [srt_nil]
    exact RetV.mk rfl hown' (((Below.refl _ _).alloc (Nat.le_refl _) _).trans hb')
  | succ n ih =>
    intro v l B w hn hr hB hl
    obtain ⟨A, c, _, rfl, rfl, h1, h2⟩ := hr.bds
    by_cases hs : l.length < 2
    · have hsl := srt_small hs
      have HR := Lib.hid (hr.below ((Below.refl B w).alloc hB (.cells #[] 9)))
      have HS := Lib.hid hsl; have HIH := Lib.hid ih
      clear hr hn hsl ih
      go_enter Tryz.func252, Tryz.ntmps252
      go_wp2_with (first
        | (at_builtin; refine wpl_appV (f := Value.string) (fun _ => rfl) (.string ⟨#[]⟩) rfl rfl _ _ 81 rfl w.heap.size 9 16 Tryz.underlying81 Tryz.infStr _ [] rfl (OwnV.empty _ _ _ _ 0 (Nat.le_refl _) _ rfl (by decide)) B _ l rfl HR.out (by unfold maxLen; simp; omega) (by simp; omega) (by simp) ?_; intro v' w' hown' hb' _))
      go_ret
      rw [HS.out]
      exact RetV.mk rfl hown' (((Below.refl _ _).alloc (Nat.le_refl _) _).trans hb')
    · obtain ⟨x, hx⟩ : ∃ x, l[0]? = some x := ⟨l[0], List.getElem?_eq_getElem (by omega)⟩
      obtain ⟨ad, rfl, _, _⟩ := hr.at hx
      have hh := srt_halves l (l.length / 2)
      obtain ⟨m, hm⟩ : ∃ m, l.length / 2 = m := ⟨_, rfl⟩
      have hm1 : 1 ≤ m := by omega
      have hm2 : m < l.length := by omega
      have hdr : (l.drop m).length = l.length - m := List.length_drop
      have htk : (l.take m).length = m := by rw [List.length_take]; omega
      have hr1 : RdV Value.string w B (.slice (some ad) m c) (l.take m) := by
        have := hr.head (m := l.take m) (by rw [htk]) (by omega)
        rwa [htk] at this
      have hr2 := hr.tail m (by omega)
      rw [hm] at hh
      have hcm : ¬ c = m := by omega
      have hq : (l.length : Int) / 2 = (m : Int) := by omega
      have hqt : (l.length : Int).tdiv 2 = (m : Int) := by rw [Int.tdiv_eq_ediv_of_nonneg (by omega)]; exact hq
      have H1 := fun w' (hb : Below B w w') (h : B ≤ w'.heap.size) => Lib.hid (ih _ (l.take m) B w' (by omega) (hr1.below hb) h (by omega))
      have H2 := fun w' (hb : Below B w w') (h : B ≤ w'.heap.size) => Lib.hid (ih _ (l.drop m) B w' (by omega) (hr2.below hb) h (by omega))
      have hsl1 := srt_len (l.take m); have hsl2 := srt_len (l.drop m)
      have H3 := fun va vb w' (h1 : RdV Value.string w' w'.heap.size va (srt (l.take m))) (h2 : RdV Value.string w' w'.heap.size vb (srt (l.drop m))) =>
        Lib.hid (merge_any va vb _ _ _ w' h1 h2 (Nat.le_refl _) (srt_asc _) (srt_asc _) (by omega))
      rw [hh] at H3
      clear hr hr1 hr2 ih hsl1 hsl2 hh hn hdr htk hm hx
      generalize srt (l.take m) = S1 at *
      generalize srt (l.drop m) = S2 at *
      go_enter Tryz.func252, Tryz.ntmps252
      go_wp2_with fail
      have hb0 : Below B w w.drew := (Below.refl B w).drew
      have hB0 : B ≤ w.drew.heap.size := hB
      clear hq hqt
      go_region_with (first
        | (go_at_call 252; (with_reducible refine (H1 _ hb0 hB0).out.mono ?_); rintro e w1 ⟨v1, rfl, hown1, hb1⟩; have hr1 := hown1.read; have hbB1 : Below B w w1 := hb0.trans (hb1.mono hB0); have hB1 : B ≤ w1.heap.size := Nat.le_trans hB0 hb1.size; clear hown1)
        | (go_at_call 252; (with_reducible refine (H2 _ hbB1 hB1).out.mono ?_); rintro e w2 ⟨v2, rfl, hown2, hb2⟩; have hr2 := hown2.read; have hr1' := hr1.step hb2; clear hown2 hr1)
        | (go_at_call 269; (with_reducible refine (H3 _ _ _ hr1' hr2).out.mono ?_); rintro e w3 ⟨v3, rfl, hown3, hb3⟩))
      all_goals go_wp2
      all_goals go_ret
      all_goals have hbb := bel_trans (bel_trans ((Below.refl w.heap.size w).drew.trans hb1) hb2) hb3
      all_goals exact RetV.mk rfl (hown3.lower (bel_trans ((Below.refl w.heap.size w).drew.trans hb1) hb2).size) hbb
end Go.Proofs.YtnmlajmaffiigaaGreatDoor

namespace Go.DI
open Go.RowKit Go.VB Go.WideMaps Go.Maps
/-- A map that holds the places of the first k words. -/
def MOk (S : List ByteArray) (k : Nat) (D : DataW Unit) : Prop := IsMap D ∧ ∀ j x, j < k → S[j]? = some x → D.atKey (.string x.data.toList) (.lit (.int .i64 0)) = .lit (.int .i64 (j : Int))
theorem MOk.start (S : List ByteArray) : MOk S 0 (.map []) := ⟨isMap_empty, fun _ _ h _ => by omega⟩
theorem MOk.step {S : List ByteArray} {k : Nat} {D : DataW Unit} {x : ByteArray} (h : MOk S k D) (ha : Asc S) (hx : S[k]? = some x) : MOk S (k + 1) (D.put (.string x.data.toList) (.lit (.int .i64 (k : Int)))) := by
  refine ⟨h.1.put _ _, fun j y hj hy => ?_⟩
  by_cases he : j = k
  · subst he
    rw [hx] at hy; cases hy
    exact atKey_put_same h.1 (by simp [WideAt.IsKeyLit]) _ _
  · have hne : (Lit.string y.data.toList) ≠ (Lit.string x.data.toList) := by
      intro e
      injection e with e
      have e2 := list_inj e
      subst e2
      exact he (ha.inj hy hx)
    rw [atKey_put_other hne]
    exact h.2 j y (by omega) hy
theorem MOk.at {S : List ByteArray} {k : Nat} {D : DataW Unit} {x : ByteArray} {c : Int} (h : MOk S k D) {j : Nat} (hj : j < k) (hx : S[j]? = some x) (hc : D.atKey (.string x.data.toList) (.lit (.int .i64 0)) = .lit (.int .i64 c)) : c = j := by
  have := h.2 j x hj hx
  rw [this] at hc
  injection hc with hc
  injection hc with _ hc
  exact hc.symm
theorem run_makeMapN {P : Program} {t k e : TypeId} (ht : P.underlying t = some (.map k e)) (n : Nat) (w : World) : (Instr.makeMap t (some (.int .i64 (n : Int)))).run P w = .ok (.map (some w.heap.size)) (w.alloc (.map #[] 0)) := by
  simp [Instr.makeMap, run_underlying ht, asInt, newObj]
  rfl
end Go.DI
namespace Go.Proofs.YtnmlajmaffiigaaGreatDoor
open Go.RowKit Go.VB Go.VarM Go.BP Go.RL Go.DI Go.WideMaps Go.Maps
theorem Tryz.mlaw : Keyed Tryz.prog 9 := string_keyed Tryz.underlying9
theorem Tryz.mzero (w : World) : (zeroValue 3).run Tryz.prog w = .ok (.int .i64 0) w := by kernel_rfl
set_option maxRecDepth 100000 in
set_option maxHeartbeats 4000000 in
theorem build_any (v : Value) (l : List ByteArray) (B : Nat) (w : World) (hr : RdV Value.string w B v l) (hB : B ≤ w.heap.size) (hl : l.length ≤ 8796093022208) (hz : ∀ x ∈ l, x.size ≤ maxLen) :
    Calls Tryz.prog 228 #[v] w (Ret2 Value.string nI (srt l) (idx l) w) := by
  obtain ⟨A, c, _, rfl, rfl, hc1, hc2⟩ := hr.bds
  have HS := fun w' (hb : Below B w w') (h : B ≤ w'.heap.size) => Lib.hid (sort_any _ _ l B w' (Nat.le_refl _) (hr.below hb) h hl)
  have hSl := srt_len l
  have hSa := srt_asc l
  have hSz : ∀ x ∈ srt l, x.size ≤ maxLen := fun x hx => hz x (srt_mem.1 hx)
  have hIx := fun j s (h : l[j]? = some s) => idx_at h
  have hIb := fun j s (h : l[j]? = some s) => idx_back h
  have hIl := idx_len l
  generalize srt l = S at *
  generalize idx l = I at *
  have HR := Lib.hid hr; have HSA := Lib.hid hSa; have HSZ := Lib.hid hSz; have HZ := Lib.hid hz; have HIX := Lib.hid hIx; have HIB := Lib.hid hIb; have HIL := Lib.hid hIl
  clear hr hSa hSz hz hIx hIb hIl
  go_enter Tryz.func228, Tryz.ntmps228
  go_wp2_with (go_at_call 252; (with_reducible refine (HS w (Below.refl B w) hB).out.mono ?_); rintro e w1 ⟨v1, rfl, hown1, hb1⟩; obtain ⟨A1, k1, _, rfl, rfl, hk1, hk2⟩ := hown1.read.bds; have hmm := run_makeMapN (P := Tryz.prog) (t := 267) Tryz.underlying267 S.length w1)
  have hr1 := hown1.read
  have hmo := World.ownsMap_made (H := Unit) w1 Tryz.prog 9 (plainElem Tryz.prog 3)
  have hB1 := (Below.refl w1.heap.size w1).alloc (Nat.le_refl _) (.map #[] 0)
  have hsz1 := hb1.size
  clear hown1 hmm HS
  generalize w1.alloc (.map #[] 0) = w2 at hmo hB1
  have HR1 := Lib.hid hr1; clear hr1
  go_loopw [18] (fun i wr => ∃ (k : Nat) (D : DataW Unit), i = .int .i64 k ∧ k ≤ S.length ∧ wr.ownsMap Tryz.prog 9 (plainElem Tryz.prog 3) w1.heap.size k D ∧ MOk S k D ∧ Below w1.heap.size w1 wr) (fun i _ => S.length - (intOf i).toNat)
  case atStart => exact ⟨0, .map [], rfl, Nat.zero_le _, hmo, MOk.start S, hB1⟩
  case round =>
    clear hmo hB1
    obtain ⟨k, D, rfl, hk, hown, hM, hbel⟩ := hrel
    have HM := Lib.hid hM; clear hM
    by_cases hlt : k < S.length
    · have hx : S[k]? = some S[k] := List.getElem?_eq_getElem hlt
      have hxs := HSZ.out _ (List.mem_of_getElem? hx)
      obtain ⟨ad, rfl, _, hgx⟩ := (HR1.out.below hbel).at hx
      have HX := Lib.hid hx; clear hx
      generalize S[k] = x at hgx HX hxs
      have hkey := keyOf_string_mk (P := Tryz.prog) Tryz.underlying9 hxs
      clear hxs
      go_wp2_with (first
        | (at_mapUpdate; refine wpList_mapUpdate_own _ rfl _ _ _ 267 rfl 9 3 Tryz.mlaw Tryz.underlying267 _ w1.heap.size k _ rfl hown (by unfold maxLen; omega) _ _ _ rfl rfl hkey _ [] (plainElem_int Tryz.underlying3 (WalkArith.wf_i64 (by omega))) ?_)
        | go_in)
      intro w3 hown3 hgrow3
      have hbel3 := hbel.grown hgrow3 hbel.size (fun j hj => by cases hj; exact Nat.le_refl _)
      clear hown hgrow3 hbel hgx hkey
      go_wp2
      go_roundw
      case rel => exact ⟨k + 1, _, by go_num, hlt, hown3, HM.out.step HSA.out HX.out, hbel3⟩
      case measure => simp [intOf] <;> omega
    · have hkn : k = S.length := by omega
      subst hkn
      have hmk := run_makeV (P := Tryz.prog) (t := 32) (z := .int .i64 0) rfl Tryz.underlying32 Tryz.infInt l.length (by omega) (by unfold maxLen; omega) wr
      have hrow := RowV.made nI 0 3 wr w1.heap.size l.length hbel.size (by unfold maxLen; omega)
      have hmo := hown.alloc (.cells (madeCells #[.int .i64 0] l.length) 3)
      have hb2 := hbel.alloc hbel.size (.cells (madeCells #[.int .i64 0] l.length) 3)
      have hlt1 := hown.lt
      have hszr := hbel.size
      change RowV nI 3 (wr.alloc (.cells (madeCells #[.int .i64 0] l.length) 3)) w1.heap.size wr.heap.size l.length _ at hrow
      clear hown hbel
      generalize hg : wr.heap.size = g at hmk hrow hlt1 hszr
      generalize wr.alloc (.cells (madeCells #[.int .i64 0] l.length) 3) = w3 at hmk hrow hmo hb2
      clear hg
      go_wp2_with fail
      go_loopw [32] (fun i wr => ∃ (j : Nat) (L : List Nat), i = .int .i64 j ∧ j ≤ l.length ∧ wr.ownsMap Tryz.prog 9 (plainElem Tryz.prog 3) w1.heap.size S.length D ∧ RowV nI 3 wr w1.heap.size g l.length L ∧ L = I.take j ++ List.replicate (l.length - j) 0 ∧ Below w1.heap.size w1 wr) (fun i _ => l.length - (intOf i).toNat)
      case atStart => exact ⟨0, _, rfl, Nat.zero_le _, hmo, hrow, fill_start I l.length 0, hb2⟩
      case round =>
        clear hmo hrow hb2 hmk
        obtain ⟨j, L, rfl, hj, hmo, hrow, hL, hbel⟩ := hrel
        have HL := Lib.hid hL; clear hL
        by_cases hjl : j < l.length
        · have hx : l[j]? = some l[j] := List.getElem?_eq_getElem hjl
          have hxs := HZ.out _ (List.mem_of_getElem? hx)
          have hi := HIX.out j _ hx
          have hi2 := HIB.out j _ hx
          obtain ⟨ad, rfl, _, hgx⟩ := (HR.out.below (hb1.trans (hbel.mono hsz1) |>.mono hB)).at hx
          clear hx
          generalize l[j] = x at hgx hi hi2 hxs
          have hkey := keyOf_string_mk (P := Tryz.prog) Tryz.underlying9 hxs
          have hps : plc x S < S.length := (List.getElem?_eq_some_iff.1 hi2).1
          have hat2 := fun c hc => HM.out.at (c := c) hps hi2 hc
          have hst := hrow.store j (plc x S)
          have hgr := hrow.grown j (plc x S)
          have hfr := hrow.frozen j
          have hlL : L.length = l.length := by rw [HL.out]; exact fill_len HIL.out hj
          have hLj : L[j]? = some (L[j]'(by omega)) := List.getElem?_eq_getElem _
          have hcl := hrow.cell j _ hLj
          generalize L[j]'_ = old at hcl
          have hcl' : wr.cell? ⟨g, j, none⟩ = some (.int .i64 (old : Int)) := hcl
          have hse := fill_set (z := 0) HIL.out hjl hi
          have hne : some w1.heap.size ≠ some g := fun e => by cases e; omega
          generalize plc x S = p at *
          have HSE := Lib.hid hse; have HAT := Lib.hid hat2
          clear hcl hLj hxs hi hi2 hse hat2
          have hmo2 := hmo.kept hgr hne
          have hbel2 := hbel.setCell (p := ⟨g, j, none⟩) hszr (nI p)
          have hst' : RowV nI 3 (wr.setCell ⟨g, j, none⟩ (.int .i64 (p : Int))) w1.heap.size g l.length (L.set j p) := hst
          have hmo2' : (wr.setCell ⟨g, j, none⟩ (.int .i64 (p : Int))).ownsMap Tryz.prog 9 (plainElem Tryz.prog 3) w1.heap.size S.length D := hmo2
          have hbel2' : Below w1.heap.size w1 (wr.setCell ⟨g, j, none⟩ (.int .i64 (p : Int))) := hbel2
          have HST := Lib.hid hst'; have HMO := Lib.hid hmo2'; have HBE := Lib.hid hbel2'
          clear hst hmo2 hbel2 hst' hmo2' hbel2' hgr
          go_wp2_with (first
            | (at_lookup; refine wpList_lookup_own_int _ rfl _ _ 267 rfl 9 3 .i64 Tryz.mlaw Tryz.underlying267 Tryz.underlying3 (Tryz.mzero _) w1.heap.size S.length _ rfl hmo _ _ rfl hkey ?_; intro c hat hwc; obtain rfl := HAT.out c hat)
            | go_in)
          go_roundw
          case rel => exact ⟨j + 1, L.set j p, by go_num, hjl, HMO.out, HST.out, by rw [HL.out]; exact HSE.out, HBE.out⟩
          case measure => simp [intOf] <;> omega
        · have hjn : j = l.length := by omega
          have hfin : L = I := by rw [HL.out, hjn]; exact fill_end HIL.out
          have HF := Lib.hid hfin; have HIL2 := Lib.hid (HIL.out)
          clear hjn hfin
          go_wp2_with fail
          go_ret2
          refine Ret2.mk rfl ((HR1.out.below hbel).more hbel.size) ?_ (hb1.trans (hbel.mono hsz1))
          have h := hrow.read
          rw [HF.out, HIL.out] at h
          exact h
end Go.Proofs.YtnmlajmaffiigaaGreatDoor
