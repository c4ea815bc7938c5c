/- Sorted dictionaries: the order of texts, the different texts of a list in ascending order, their places, the encoding, and what Decode finds. -/
import Derived.Test.YtjoohmifbkbpbaaRle
import Derived.Test.YtjoohmifbkbpbaaBits
namespace Go.DI
open Go.RowKit Go.VB Go.VarM Go.BP Go.RL

/-! the order, byte by byte -/
def lts (a b : ByteArray) : Bool := Go.Op.bytesLess a.toList b.toList
theorem less_irr : ∀ (a : List UInt8), Go.Op.bytesLess a a = false
  | [] => rfl
  | a :: l => by simp [Go.Op.bytesLess, less_irr l]
theorem less_tri : ∀ (a b : List UInt8), Go.Op.bytesLess a b = true ∨ a = b ∨ Go.Op.bytesLess b a = true
  | [], [] => .inr (.inl rfl)
  | [], _ :: _ => .inl rfl
  | _ :: _, [] => .inr (.inr rfl)
  | a :: l, b :: m => by
    have h := less_tri l m
    simp only [Go.Op.bytesLess]
    by_cases h1 : a < b
    · simp [h1]
    · by_cases h2 : b < a
      · simp [h2]
      · have e : a = b := by
          apply UInt8.toNat_inj.1
          have h1' : ¬ a.toNat < b.toNat := h1
          have h2' : ¬ b.toNat < a.toNat := h2
          omega
        subst e
        simp only [h1, beq_self_eq_true, Bool.false_or, decide_false, Bool.true_and, List.cons.injEq, true_and]
        simpa using h
theorem less_trans : ∀ (a b c : List UInt8), Go.Op.bytesLess a b = true → Go.Op.bytesLess b c = true → Go.Op.bytesLess a c = true
  | _, [], [], _, h => by simp [Go.Op.bytesLess] at h
  | [], [], _ :: _, h, _ => by simp [Go.Op.bytesLess] at h
  | [], _ :: _, [], _, h => by simp [Go.Op.bytesLess] at h
  | [], _ :: _, _ :: _, _, _ => rfl
  | _ :: _, [], _, h, _ => by simp [Go.Op.bytesLess] at h
  | _ :: _, _ :: _, [], _, h => by simp [Go.Op.bytesLess] at h
  | a :: l, b :: m, c :: n, h1, h2 => by
    simp only [Go.Op.bytesLess, Bool.or_eq_true, decide_eq_true_eq, Bool.and_eq_true, beq_iff_eq] at h1 h2 ⊢
    rcases h1 with h1 | ⟨rfl, h1⟩
    · rcases h2 with h2 | ⟨rfl, _⟩
      · left
        have h1' : a.toNat < b.toNat := h1
        have h2' : b.toNat < c.toNat := h2
        exact (show a.toNat < c.toNat by omega)
      · exact .inl h1
    · rcases h2 with h2 | ⟨rfl, h2⟩
      · exact .inl h2
      · exact .inr ⟨rfl, less_trans l m n h1 h2⟩
theorem toList_inj {s t : ByteArray} (h : s.toList = t.toList) : s = t := by
  rw [ByteArray.toList_eq, ByteArray.toList_eq] at h
  exact Go.WideShapes.bytes_inj h
theorem lts_irr (a : ByteArray) : lts a a = false := less_irr _
theorem lts_trans {a b c : ByteArray} (h1 : lts a b = true) (h2 : lts b c = true) : lts a c = true := less_trans _ _ _ h1 h2
theorem lts_tri (a b : ByteArray) : lts a b = true ∨ a = b ∨ lts b a = true := by
  rcases less_tri a.toList b.toList with h | h | h
  · exact .inl h
  · exact .inr (.inl (toList_inj h))
  · exact .inr (.inr h)
theorem lts_ne {a b : ByteArray} (h : lts a b = true) : a ≠ b := fun e => by subst e; rw [lts_irr] at h; cases h
theorem lts_asym {a b : ByteArray} (h : lts a b = true) : lts b a = false := by
  cases hb : lts b a with
  | false => rfl
  | true => have := lts_trans h hb; rw [lts_irr] at this; cases this
theorem lts_not {a b : ByteArray} (h : lts a b = false) (hne : a ≠ b) : lts b a = true := by
  rcases lts_tri a b with h1 | h1 | h1
  · rw [h] at h1; cases h1
  · exact absurd h1 hne
  · exact h1
theorem le_trans {a b c : ByteArray} (h1 : lts a b = true) (h2 : lts c b = false) : lts a c = true := by
  rcases lts_tri c b with h | h | h
  · rw [h2] at h; cases h
  · subst h; exact h1
  · exact lts_trans h1 h

/-! ascending lists -/
def Asc (l : List ByteArray) : Prop := l.Pairwise fun a b => lts a b = true
theorem Asc.nil : Asc [] := List.Pairwise.nil
theorem Asc.one (a : ByteArray) : Asc [a] := List.pairwise_singleton _ _
theorem asc_ext : ∀ {a b : List ByteArray}, Asc a → Asc b → (∀ x, x ∈ a ↔ x ∈ b) → a = b
  | [], [], _, _, _ => rfl
  | [], y :: b, _, _, h => by have := (h y).2 (List.mem_cons_self ..); simp at this
  | x :: a, [], _, _, h => by have := (h x).1 (List.mem_cons_self ..); simp at this
  | x :: a, y :: b, ha, hb, h => by
    obtain ⟨ha1, ha2⟩ := List.pairwise_cons.1 ha
    obtain ⟨hb1, hb2⟩ := List.pairwise_cons.1 hb
    have e : x = y := by
      have h1 := (h x).1 (List.mem_cons_self ..)
      have h2 := (h y).2 (List.mem_cons_self ..)
      rcases List.mem_cons.1 h1 with h1 | h1
      · exact h1
      · rcases List.mem_cons.1 h2 with h2 | h2
        · exact h2.symm
        · have k1 := hb1 x h1
          have k2 := ha1 y h2
          rw [lts_asym k1] at k2; cases k2
    subst e
    congr 1
    refine asc_ext ha2 hb2 fun z => ?_
    constructor
    · intro hz
      rcases List.mem_cons.1 ((h z).1 (List.mem_cons_of_mem _ hz)) with h1 | h1
      · subst h1; exact absurd rfl (lts_ne (ha1 _ hz))
      · exact h1
    · intro hz
      rcases List.mem_cons.1 ((h z).2 (List.mem_cons_of_mem _ hz)) with h1 | h1
      · subst h1; exact absurd rfl (lts_ne (hb1 _ hz))
      · exact h1
theorem asc_app {a b : List ByteArray} (ha : Asc a) (hb : Asc b) (h : ∀ x ∈ a, ∀ y ∈ b, lts x y = true) : Asc (a ++ b) := List.pairwise_append.2 ⟨ha, hb, h⟩
theorem Asc.left {a b : List ByteArray} (h : Asc (a ++ b)) : Asc a := (List.pairwise_append.1 h).1
theorem Asc.at {l : List ByteArray} (h : Asc l) {i j : Nat} {x y : ByteArray} (hij : i < j) (hx : l[i]? = some x) (hy : l[j]? = some y) : lts x y = true := by
  obtain ⟨hi, rfl⟩ := List.getElem?_eq_some_iff.1 hx
  obtain ⟨hj, rfl⟩ := List.getElem?_eq_some_iff.1 hy
  exact List.pairwise_iff_getElem.1 h i j hi hj hij
theorem Asc.inj {l : List ByteArray} (h : Asc l) {i j : Nat} {x : ByteArray} (hx : l[i]? = some x) (hy : l[j]? = some x) : i = j := by
  rcases Nat.lt_trichotomy i j with h1 | h1 | h1
  · have := h.at h1 hx hy; rw [lts_irr] at this; cases this
  · exact h1
  · have := h.at h1 hy hx; rw [lts_irr] at this; cases this

/-! the place of a text among ascending ones -/
def plc (s : ByteArray) : List ByteArray → Nat
  | [] => 0
  | w :: r => if lts w s then plc s r + 1 else 0
theorem plc_le (s : ByteArray) : ∀ l, plc s l ≤ l.length
  | [] => Nat.le_refl _
  | w :: r => by
    have := plc_le s r
    unfold plc; split <;> simp <;> omega
theorem plc_lo (s : ByteArray) : ∀ (l : List ByteArray) (i : Nat) (x : ByteArray), i < plc s l → l[i]? = some x → lts x s = true
  | [], i, x, h, _ => by simp [plc] at h
  | w :: r, i, x, h, hx => by
    unfold plc at h
    by_cases hw : lts w s = true
    · rw [if_pos hw] at h
      cases i with
      | zero => simp at hx; rw [← hx]; exact hw
      | succ i => exact plc_lo s r i x (by omega) (by simpa using hx)
    · rw [if_neg hw] at h; omega
theorem plc_hi (s : ByteArray) : ∀ (l : List ByteArray) (x : ByteArray), l[plc s l]? = some x → lts x s = false
  | [], x, h => by simp at h
  | w :: r, x, h => by
    unfold plc at h
    by_cases hw : lts w s = true
    · rw [if_pos hw, List.getElem?_cons_succ] at h
      exact plc_hi s r x h
    · rw [if_neg hw] at h
      simp at h
      rw [← h]; simpa using hw
theorem plc_step {s : ByteArray} {l : List ByteArray} {i : Nat} {x : ByteArray} (hi : i ≤ plc s l) (hx : l[i]? = some x) (h : lts x s = true) : i + 1 ≤ plc s l := by
  rcases Nat.lt_or_ge i (plc s l) with h1 | h1
  · exact h1
  · have e : i = plc s l := by omega
    subst e
    rw [plc_hi s l x hx] at h; cases h
theorem plc_stop {s : ByteArray} {l : List ByteArray} {i : Nat} {x : ByteArray} (hi : i ≤ plc s l) (hx : l[i]? = some x) (h : lts x s = false) : plc s l = i := by
  rcases Nat.lt_or_ge i (plc s l) with h1 | h1
  · rw [plc_lo s l i x h1 hx] at h; cases h
  · omega
theorem plc_end {s : ByteArray} {l : List ByteArray} {i : Nat} (hi : i ≤ plc s l) (hl : l.length ≤ i) : plc s l = i := by
  have := plc_le s l; omega
theorem plc_at {s : ByteArray} {l : List ByteArray} (h : Asc l) {i : Nat} (hi : l[i]? = some s) : plc s l = i := by
  rcases Nat.lt_trichotomy i (plc s l) with h1 | h1 | h1
  · have := plc_lo s l i s h1 hi; rw [lts_irr] at this; cases this
  · exact h1.symm
  · have hl := (List.getElem?_eq_some_iff.1 hi).1
    have h2 := plc_hi s l _ (List.getElem?_eq_getElem (by omega))
    rw [h.at h1 (List.getElem?_eq_getElem (by omega)) hi] at h2; cases h2
theorem plc_mem {s : ByteArray} {l : List ByteArray} (h : Asc l) (hs : s ∈ l) : plc s l < l.length ∧ l[plc s l]? = some s := by
  obtain ⟨i, hi, e⟩ := List.mem_iff_getElem.1 hs
  have h1 : l[i]? = some s := by rw [List.getElem?_eq_getElem hi, e]
  rw [plc_at h h1]
  exact ⟨hi, h1⟩

/-! the different texts of a list -/
def ins (s : ByteArray) (l : List ByteArray) : List ByteArray := if l[plc s l]? = some s then l else l.take (plc s l) ++ s :: l.drop (plc s l)
theorem mem_ins {s x : ByteArray} {l : List ByteArray} : x ∈ ins s l ↔ x = s ∨ x ∈ l := by
  unfold ins
  split
  · rename_i h
    constructor
    · exact .inr
    · rintro (rfl | h1)
      · exact List.mem_of_getElem? h
      · exact h1
  · have e : x ∈ l ↔ x ∈ l.take (plc s l) ∨ x ∈ l.drop (plc s l) := by
      rw [← List.mem_append, List.take_append_drop]
    rw [List.mem_append, List.mem_cons, e]
    constructor
    · rintro (h | h | h)
      · exact .inr (.inl h)
      · exact .inl h
      · exact .inr (.inr h)
    · rintro (h | h | h)
      · exact .inr (.inl h)
      · exact .inl h
      · exact .inr (.inr h)
theorem asc_ins {s : ByteArray} {l : List ByteArray} (h : Asc l) : Asc (ins s l) := by
  unfold ins
  split
  · exact h
  · rename_i hne
    have hto : ∀ x ∈ l.take (plc s l), lts x s = true := by
      intro x hx
      obtain ⟨i, hi, e⟩ := List.mem_iff_getElem.1 hx
      rw [List.length_take] at hi
      refine plc_lo s l i x (by omega) ?_
      rw [← e, List.getElem_take, List.getElem?_eq_getElem]
    have hfrom : ∀ x ∈ l.drop (plc s l), lts s x = true := by
      intro x hx
      obtain ⟨i, hi, e⟩ := List.mem_iff_getElem.1 hx
      rw [List.length_drop] at hi
      rw [List.getElem_drop] at e
      have h0 : l[plc s l]? = some l[plc s l] := List.getElem?_eq_getElem (by omega)
      have h1 := plc_hi s l _ h0
      have h2 : lts s l[plc s l] = true := lts_not h1 fun e' => hne (by rw [h0, e'])
      rcases Nat.eq_zero_or_pos i with hi0 | hi0
      · subst hi0
        rw [← e]; exact h2
      · refine lts_trans h2 ?_
        rw [← e]
        exact List.pairwise_iff_getElem.1 h _ _ (by omega) (by omega) (by omega)
    have hw : Asc (l.take (plc s l) ++ l.drop (plc s l)) := by rw [List.take_append_drop]; exact h
    obtain ⟨h1, h2, _⟩ := List.pairwise_append.1 hw
    refine asc_app h1 (List.pairwise_cons.2 ⟨hfrom, h2⟩) ?_
    intro x hx y hy
    rcases List.mem_cons.1 hy with hy | hy
    · subst hy; exact hto x hx
    · exact lts_trans (hto x hx) (hfrom y hy)
theorem ins_len (s : ByteArray) (l : List ByteArray) : (ins s l).length ≤ l.length + 1 := by
  have := plc_le s l
  unfold ins
  split
  · omega
  · rw [List.length_append, List.length_take, List.length_cons, List.length_drop]; omega
theorem ins_old {s : ByteArray} {l : List ByteArray} (h : l[plc s l]? = some s) : ins s l = l := by unfold ins; rw [if_pos h]
theorem ins_new {s : ByteArray} {l : List ByteArray} (h : l[plc s l]? ≠ some s) : ins s l = l.take (plc s l) ++ s :: l.drop (plc s l) := by unfold ins; rw [if_neg h]
/-- The different texts of l, ascending. -/
def srt (l : List ByteArray) : List ByteArray := l.foldl (fun ws s => ins s ws) []
theorem srt_nil : srt [] = [] := rfl
theorem srt_snoc (l : List ByteArray) (s : ByteArray) : srt (l ++ [s]) = ins s (srt l) := by unfold srt; rw [List.foldl_append]; rfl
theorem take_snoc {α : Type} {l : List α} {j : Nat} {s : α} (h : l[j]? = some s) : l.take (j + 1) = l.take j ++ [s] := by rw [List.take_add_one, h]; rfl
theorem srt_take {l : List ByteArray} {j : Nat} {s : ByteArray} (h : l[j]? = some s) : srt (l.take (j + 1)) = ins s (srt (l.take j)) := by
  rw [take_snoc h, srt_snoc]
theorem srt_facts (l : List ByteArray) : ∀ j, Asc (srt (l.take j)) ∧ (∀ x, x ∈ srt (l.take j) ↔ x ∈ l.take j) ∧ (srt (l.take j)).length ≤ j := by
  intro j
  induction j with
  | zero => rw [List.take_zero]; exact ⟨Asc.nil, by simp [srt_nil], by simp [srt_nil]⟩
  | succ j ih =>
    obtain ⟨h1, h2, h3⟩ := ih
    by_cases hj : j < l.length
    · have hx : l[j]? = some l[j] := List.getElem?_eq_getElem hj
      rw [srt_take hx]
      refine ⟨asc_ins h1, fun x => ?_, by have := ins_len l[j] (srt (l.take j)); omega⟩
      rw [mem_ins, h2, take_snoc hx, List.mem_append, List.mem_singleton]
      constructor
      · rintro (h | h)
        · exact .inr h
        · exact .inl h
      · rintro (h | h)
        · exact .inr h
        · exact .inl h
    · rw [List.take_of_length_le (by omega)] at h1 h2 h3
      rw [List.take_of_length_le (by omega)]
      exact ⟨h1, h2, by omega⟩
theorem srt_asc (l : List ByteArray) : Asc (srt l) := by
  have := (srt_facts l l.length).1
  rwa [List.take_length] at this
theorem srt_mem {l : List ByteArray} {x : ByteArray} : x ∈ srt l ↔ x ∈ l := by
  have := (srt_facts l l.length).2.1 x
  rwa [List.take_length] at this
theorem srt_len (l : List ByteArray) : (srt l).length ≤ l.length := by
  have := (srt_facts l l.length).2.2
  rwa [List.take_length] at this
theorem srt_is {l m : List ByteArray} (h : Asc m) (hm : ∀ x, x ∈ m ↔ x ∈ l) : m = srt l := asc_ext h (srt_asc l) fun x => (hm x).trans srt_mem.symm
theorem srt_pos {l : List ByteArray} (h : l ≠ []) : 0 < (srt l).length := by
  cases l with
  | nil => exact absurd rfl h
  | cons x l => exact List.length_pos_of_mem (srt_mem.2 (List.mem_cons_self ..) : x ∈ srt (x :: l))
/-- The place of each element. -/
def idx (l : List ByteArray) : List Nat := l.map fun s => plc s (srt l)
theorem idx_len (l : List ByteArray) : (idx l).length = l.length := List.length_map _
theorem idx_lt (l : List ByteArray) : ∀ i ∈ idx l, i < (srt l).length := by
  intro i hi
  simp only [idx, List.mem_map] at hi
  obtain ⟨s, hs, rfl⟩ := hi
  exact (plc_mem (srt_asc l) (srt_mem.2 hs)).1
theorem idx_at {l : List ByteArray} {j : Nat} {s : ByteArray} (h : l[j]? = some s) : (idx l)[j]? = some (plc s (srt l)) := by simp [idx, h]
theorem idx_back {l : List ByteArray} {j : Nat} {s : ByteArray} (h : l[j]? = some s) : (srt l)[plc s (srt l)]? = some s := (plc_mem (srt_asc l) (srt_mem.2 (List.mem_of_getElem? h))).2

/-! joining two ascending lists -/
def MI (a b m a' b' : List ByteArray) : Prop := Asc m ∧ Asc a' ∧ Asc b' ∧ (∀ x ∈ m, ∀ y ∈ a', lts x y = true) ∧ (∀ x ∈ m, ∀ y ∈ b', lts x y = true) ∧ (∀ x, x ∈ a ∨ x ∈ b ↔ x ∈ m ∨ x ∈ a' ∨ x ∈ b') ∧ m.length + a'.length + b'.length ≤ a.length + b.length
theorem MI.start {a b : List ByteArray} (ha : Asc a) (hb : Asc b) : MI a b [] a b := ⟨Asc.nil, ha, hb, by simp, by simp, by simp, by simp⟩
section
variable {a b m r t a' b' : List ByteArray} {x y : ByteArray}
theorem MI.left (h : MI a b m (x :: r) (y :: t)) (hxy : lts x y = true) : MI a b (m ++ [x]) r (y :: t) := by
  obtain ⟨h1, h2, h3, h4, h5, h6, h7⟩ := h
  obtain ⟨h21, h22⟩ := List.pairwise_cons.1 h2
  obtain ⟨h31, h32⟩ := List.pairwise_cons.1 h3
  refine ⟨asc_app h1 (Asc.one x) (fun z hz w hw => by rw [List.mem_singleton.1 hw]; exact h4 z hz x (List.mem_cons_self ..)), h22, h3, ?_, ?_, ?_, by simp at h7 ⊢; omega⟩
  · intro z hz w hw
    rcases List.mem_append.1 hz with hz | hz
    · exact h4 z hz w (List.mem_cons_of_mem _ hw)
    · rw [List.mem_singleton.1 hz]; exact h21 w hw
  · intro z hz w hw
    rcases List.mem_append.1 hz with hz | hz
    · exact h5 z hz w hw
    · rw [List.mem_singleton.1 hz]
      rcases List.mem_cons.1 hw with hw | hw
      · rw [hw]; exact hxy
      · exact lts_trans hxy (h31 w hw)
  · intro z
    rw [h6 z, List.mem_append, List.mem_singleton, List.mem_cons]
    constructor
    · rintro (h | (h | h) | h)
      · exact .inl (.inl h)
      · exact .inl (.inr h)
      · exact .inr (.inl h)
      · exact .inr (.inr h)
    · rintro ((h | h) | h | h)
      · exact .inl h
      · exact .inr (.inl (.inl h))
      · exact .inr (.inl (.inr h))
      · exact .inr (.inr h)
theorem MI.right (h : MI a b m (x :: r) (y :: t)) (hxy : lts y x = true) : MI a b (m ++ [y]) (x :: r) t := by
  obtain ⟨h1, h2, h3, h4, h5, h6, h7⟩ := h
  obtain ⟨h21, h22⟩ := List.pairwise_cons.1 h2
  obtain ⟨h31, h32⟩ := List.pairwise_cons.1 h3
  refine ⟨asc_app h1 (Asc.one y) (fun z hz w hw => by rw [List.mem_singleton.1 hw]; exact h5 z hz y (List.mem_cons_self ..)), h2, h32, ?_, ?_, ?_, by simp at h7 ⊢; omega⟩
  · intro z hz w hw
    rcases List.mem_append.1 hz with hz | hz
    · exact h4 z hz w hw
    · rw [List.mem_singleton.1 hz]
      rcases List.mem_cons.1 hw with hw | hw
      · rw [hw]; exact hxy
      · exact lts_trans hxy (h21 w hw)
  · intro z hz w hw
    rcases List.mem_append.1 hz with hz | hz
    · exact h5 z hz w (List.mem_cons_of_mem _ hw)
    · rw [List.mem_singleton.1 hz]; exact h31 w hw
  · intro z
    rw [h6 z, List.mem_append, List.mem_singleton, List.mem_cons (b := y)]
    constructor
    · rintro (h | h | (h | h))
      · exact .inl (.inl h)
      · exact .inr (.inl h)
      · exact .inl (.inr h)
      · exact .inr (.inr h)
    · rintro ((h | h) | h | h)
      · exact .inl h
      · exact .inr (.inr (.inl h))
      · exact .inr (.inl h)
      · exact .inr (.inr (.inr h))
theorem MI.both (h : MI a b m (x :: r) (x :: t)) : MI a b (m ++ [x]) r t := by
  obtain ⟨h1, h2, h3, h4, h5, h6, h7⟩ := h
  obtain ⟨h21, h22⟩ := List.pairwise_cons.1 h2
  obtain ⟨h31, h32⟩ := List.pairwise_cons.1 h3
  refine ⟨asc_app h1 (Asc.one x) (fun z hz w hw => by rw [List.mem_singleton.1 hw]; exact h5 z hz x (List.mem_cons_self ..)), h22, h32, ?_, ?_, ?_, by simp at h7 ⊢; omega⟩
  · intro z hz w hw
    rcases List.mem_append.1 hz with hz | hz
    · exact h4 z hz w (List.mem_cons_of_mem _ hw)
    · rw [List.mem_singleton.1 hz]; exact h21 w hw
  · intro z hz w hw
    rcases List.mem_append.1 hz with hz | hz
    · exact h5 z hz w (List.mem_cons_of_mem _ hw)
    · rw [List.mem_singleton.1 hz]; exact h31 w hw
  · intro z
    rw [h6 z, List.mem_append, List.mem_singleton, List.mem_cons, List.mem_cons]
    constructor
    · rintro (h | (h | h) | (h | h))
      · exact .inl (.inl h)
      · exact .inl (.inr h)
      · exact .inr (.inl h)
      · exact .inl (.inr h)
      · exact .inr (.inr h)
    · rintro ((h | h) | h | h)
      · exact .inl h
      · exact .inr (.inl (.inl h))
      · exact .inr (.inl (.inr h))
      · exact .inr (.inr (.inr h))
theorem MI.done (h : MI a b m a' b') (he : a' = [] ∨ b' = []) : m ++ a' ++ b' = srt (a ++ b) := by
  obtain ⟨h1, h2, h3, h4, h5, h6, _⟩ := h
  have hm : ∀ x, x ∈ m ++ a' ++ b' ↔ x ∈ a ++ b := by
    intro x
    rw [List.mem_append, List.mem_append, List.mem_append, h6 x, or_assoc]
  refine srt_is ?_ hm
  rcases he with rfl | rfl
  · rw [List.append_nil]; exact asc_app h1 h3 h5
  · rw [List.append_nil]; exact asc_app h1 h2 h4
end
theorem srt_halves (l : List ByteArray) (n : Nat) : srt (srt (l.take n) ++ srt (l.drop n)) = srt l := by
  refine asc_ext (srt_asc _) (srt_asc _) fun x => ?_
  rw [srt_mem, List.mem_append, srt_mem, srt_mem, srt_mem, ← List.mem_append, List.take_append_drop]
theorem srt_small {l : List ByteArray} (h : l.length < 2) : srt l = l := by
  match l, h with
  | [], _ => rfl
  | [x], _ => exact (srt_is (Asc.one x) fun _ => Iff.rfl).symm

/-! the encoding -/
def wrd (w : ByteArray) : List UInt8 := putL w.size ++ w.data.toList
def wrds (ws : List ByteArray) : List UInt8 := (ws.map wrd).flatten
theorem wrds_nil : wrds [] = [] := rfl
theorem wrds_cons (w : ByteArray) (ws : List ByteArray) : wrds (w :: ws) = wrd w ++ wrds ws := rfl
theorem wrds_app (a b : List ByteArray) : wrds (a ++ b) = wrds a ++ wrds b := by unfold wrds; rw [List.map_append, List.flatten_append]
theorem wrds_snoc (a : List ByteArray) (w : ByteArray) : wrds (a ++ [w]) = wrds a ++ wrd w := by rw [wrds_app, wrds_cons, wrds_nil, List.append_nil]
theorem wrds_take {ws : List ByteArray} {j : Nat} {w : ByteArray} (h : ws[j]? = some w) : wrds (ws.take (j + 1)) = wrds (ws.take j) ++ wrd w := by rw [take_snoc h, wrds_snoc]
theorem wrds_take_le (ws : List ByteArray) (j : Nat) : (wrds (ws.take j)).length ≤ (wrds ws).length := by
  have := wrds_app (ws.take j) (ws.drop j)
  rw [List.take_append_drop] at this
  rw [this, List.length_append]; omega
def wdt (k : Nat) : Nat := wid (k - 1)
theorem wdt_le {k : Nat} (h : k ≤ 4096) : wdt k ≤ 12 := (wid_le 12 _).2 (by simp; omega)
theorem wdt_lt {k i : Nat} (h : i < k) : i < 2 ^ wdt k := by
  have := (wid_le (wdt k) (k - 1)).1 (Nat.le_refl _)
  omega
/-- The encoding of words and indices. -/
def encW (ws : List ByteArray) (u : List Nat) : List UInt8 := putL ws.length ++ wrds ws ++ packed u (wdt ws.length)
def encD (l : List ByteArray) : List UInt8 := if 4096 < l.length then [] else encW (srt l) (idx l)
theorem encD_in {l : List ByteArray} (h : l.length ≤ 4096) : encD l = encW (srt l) (idx l) := by unfold encD; rw [if_neg (by omega)]
theorem encD_out {l : List ByteArray} (h : 4096 < l.length) : encD l = [] := by unfold encD; rw [if_pos h]
theorem packed_nil (w : Nat) : packed [] w = [] := by simp [packed, digs]
theorem packed_le {u : List Nat} {w : Nat} (h : u.length ≤ 4096) (hw : w ≤ 12) : (packed u w).length ≤ 6144 := by
  have : u.length * w ≤ 4096 * 12 := Nat.mul_le_mul h hw
  rw [packed_len]; omega

/-! reading -/
/-- One word: the word, the index behind it, the code. -/
def getW (s : ByteArray) (p : Int) : ByteArray × Int × Nat :=
  if (getR s p).2.2 ≠ 0 then (⟨#[]⟩, 0, (getR s p).2.2) else if (s.size : Int) - (getR s p).2.1 < (getR s p).1 then (⟨#[]⟩, 0, 10)
  else (s.extract (getR s p).2.1.toNat ((getR s p).2.1.toNat + (getR s p).1), (getR s p).2.1 + (getR s p).1, 0)
theorem getW_e {s : ByteArray} {p : Int} {a : Nat} {b : Int} {c : Nat} (h : getR s p = (a, b, c)) (hc : c ≠ 0) : getW s p = (⟨#[]⟩, 0, c) := by unfold getW; rw [h, if_pos hc]
theorem getW_short {s : ByteArray} {p : Int} {a : Nat} {b : Int} (h : getR s p = (a, b, 0)) (hb : (s.size : Int) - b < a) : getW s p = (⟨#[]⟩, 0, 10) := by unfold getW; rw [h, if_neg (by simp), if_pos hb]
theorem getW_ok {s : ByteArray} {p : Int} {a b : Nat} (h : getR s p = (a, (b : Int), 0)) (hb : b + a ≤ s.size) : getW s p = (s.extract b (b + a), ((b + a : Nat) : Int), 0) := by
  unfold getW; rw [h, if_neg (by simp), if_neg (by simp only; omega)]; simp
/-- What reading the words finds, k words still to come, from place p on, the words ws read. -/
def dws (s : ByteArray) : Nat → Int → List ByteArray → List ByteArray × Int × Nat
  | 0, p, ws => (ws, p, 0)
  | k + 1, p, ws => if (getW s p).2.2 ≠ 0 then ([], 0, (getW s p).2.2) else if ∃ x, ws.getLast? = some x ∧ lts x (getW s p).1 = false then ([], 0, 2) else dws s k (getW s p).2.1 (ws ++ [(getW s p).1])
section
variable {s : ByteArray} {k : Nat} {p : Int} {ws : List ByteArray} {x : ByteArray} {q : Int}
theorem dws_done (s : ByteArray) (p : Int) (ws : List ByteArray) : dws s 0 p ws = (ws, p, 0) := rfl
theorem dws_e {c : Nat} (h : getW s p = (x, q, c)) (hc : c ≠ 0) : dws s (k + 1) p ws = ([], 0, c) := by rw [dws, h, if_pos hc]
theorem dws_f {y : ByteArray} (h : getW s p = (x, q, 0)) (hy : ws.getLast? = some y) (hl : lts y x = false) : dws s (k + 1) p ws = ([], 0, 2) := by
  rw [dws, h, if_neg (by simp), if_pos ⟨y, hy, hl⟩]
theorem dws_go (h : getW s p = (x, q, 0)) (hl : ∀ y, ws.getLast? = some y → lts y x = true) : dws s (k + 1) p ws = dws s k q (ws ++ [x]) := by
  rw [dws, h, if_neg (by simp), if_neg]
  rintro ⟨y, hy, h1⟩
  rw [hl y hy] at h1; cases h1
end
/-- What the indices lead to. -/
def lkR (ws : List ByteArray) (u : List Nat) : List ByteArray × Nat :=
  if (∀ i ∈ u, i < ws.length) ∧ (∀ j, j < ws.length → j ∈ u) then (u.map fun i => ws.getD i ⟨#[]⟩, 0) else ([], 2)
theorem lkR_ok {ws : List ByteArray} {u : List Nat} (h1 : ∀ i ∈ u, i < ws.length) (h2 : ∀ j, j < ws.length → j ∈ u) : lkR ws u = (u.map fun i => ws.getD i ⟨#[]⟩, 0) := by unfold lkR; rw [if_pos ⟨h1, h2⟩]
theorem lkR_big {ws : List ByteArray} {u : List Nat} {i : Nat} (h : i ∈ u) (hi : ¬ i < ws.length) : lkR ws u = ([], 2) := by unfold lkR; rw [if_neg (fun hh => hi (hh.1 i h))]
theorem lkR_un {ws : List ByteArray} {u : List Nat} {j : Nat} (hj : j < ws.length) (h : j ∉ u) : lkR ws u = ([], 2) := by unfold lkR; rw [if_neg (fun hh => h (hh.2 j hj))]
/-- What Decode finds. -/
def decD (s : ByteArray) (n : Int) : List ByteArray × Nat :=
  if n < 0 ∨ 4096 < n then ([], 4) else if (getR s 0).2.2 ≠ 0 then ([], (getR s 0).2.2) else if n < (getR s 0).1 ∨ ((getR s 0).1 = 0 ∧ 0 < n) then ([], 2)
  else if (dws s (getR s 0).1 (getR s 0).2.1 []).2.2 ≠ 0 then ([], (dws s (getR s 0).1 (getR s 0).2.1 []).2.2)
  else if (unpackR (s.extract (dws s (getR s 0).1 (getR s 0).2.1 []).2.1.toNat s.size) n (wdt (getR s 0).1 : Nat)).2 ≠ 0 then ([], (unpackR (s.extract (dws s (getR s 0).1 (getR s 0).2.1 []).2.1.toNat s.size) n (wdt (getR s 0).1 : Nat)).2)
  else lkR (dws s (getR s 0).1 (getR s 0).2.1 []).1 (unpackR (s.extract (dws s (getR s 0).1 (getR s 0).2.1 []).2.1.toNat s.size) n (wdt (getR s 0).1 : Nat)).1
section
variable {s : ByteArray} {n : Nat} {a : Nat} {b : Int} {ws : List ByteArray} {q : Nat} {u : List Nat} {c : Nat}
theorem decD_out {n : Int} (h : n < 0 ∨ 4096 < n) : decD s n = ([], 4) := by unfold decD; rw [if_pos h]
theorem decD_e (h : n ≤ 4096) (hg : getR s 0 = (a, b, c)) (hc : c ≠ 0) : decD s (n : Nat) = ([], c) := by unfold decD; rw [if_neg (by omega), hg, if_pos hc]
theorem decD_k (h : n ≤ 4096) (hg : getR s 0 = (a, b, 0)) (hk : n < a ∨ (a = 0 ∧ 0 < n)) : decD s (n : Nat) = ([], 2) := by
  unfold decD; rw [if_neg (by omega), hg, if_neg (by simp), if_pos (by simp only; omega)]
theorem decD_w {q : Int} (h : n ≤ 4096) (hg : getR s 0 = (a, b, 0)) (hk : a ≤ n ∧ (a = 0 → n = 0)) (hw : dws s a b [] = (ws, q, c)) (hc : c ≠ 0) : decD s (n : Nat) = ([], c) := by
  unfold decD; rw [if_neg (by omega), hg, if_neg (by simp), if_neg (by simp only; omega)]; simp only; rw [hw, if_pos hc]
theorem decD_u (h : n ≤ 4096) (hg : getR s 0 = (a, b, 0)) (hk : a ≤ n ∧ (a = 0 → n = 0)) (hw : dws s a b [] = (ws, (q : Int), 0)) (hu : unpackR (s.extract q s.size) n (wdt a : Nat) = (u, c)) (hc : c ≠ 0) : decD s (n : Nat) = ([], c) := by
  unfold decD; rw [if_neg (by omega), hg, if_neg (by simp), if_neg (by simp only; omega)]; simp only; rw [hw, if_neg (by simp)]; simp only [Int.toNat_natCast]; rw [hu, if_pos hc]
theorem decD_l (h : n ≤ 4096) (hg : getR s 0 = (a, b, 0)) (hk : a ≤ n ∧ (a = 0 → n = 0)) (hw : dws s a b [] = (ws, (q : Int), 0)) (hu : unpackR (s.extract q s.size) n (wdt a : Nat) = (u, 0)) : decD s (n : Nat) = lkR ws u := by
  unfold decD; rw [if_neg (by omega), hg, if_neg (by simp), if_neg (by simp only; omega)]; simp only; rw [hw, if_neg (by simp)]; simp only [Int.toNat_natCast]; rw [hu, if_neg (by simp)]
end
end Go.DI
