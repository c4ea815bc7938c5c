/- Ranks of records and their order; parts of a list; columns of records. -/
import Derived.Test.YtjbkeipagdmlpaaRcs
import Derived.Test.YtjbkeipagdmlpaaSrt
import Derived.Test.YtjbkeipagdmlpaaValT0
namespace Go.RS
open Go.RowKit Go.VB Go.VS Go.VL Go.ST
/-- What Compare finds of two ranks. -/
def cmpR (ty : Int) (a : Vl) (s : Int) (b : Vl) (t : Int) : Int := if cmp ty a.nu a.n a.s b.nu b.n b.s ≠ 0 then cmp ty a.nu a.n a.s b.nu b.n b.s else cmpI s t
theorem cmpI_bd (s t : Int) : -1 ≤ cmpI s t ∧ cmpI s t ≤ 1 := by unfold cmpI; split <;> (try split) <;> omega
theorem cmpR_bd (ty : Int) (a : Vl) (s : Int) (b : Vl) (t : Int) : -1 ≤ cmpR ty a s b t ∧ cmpR ty a s b t ≤ 1 := by
  have h1 := cmp_bd ty a.nu a.n a.s b.nu b.n b.s
  have h2 := cmpI_bd s t
  unfold cmpR
  split <;> assumption
theorem cmpR_neg (ty : Int) (a : Vl) (s : Int) (b : Vl) (t : Int) : cmpR ty b t a s = -cmpR ty a s b t := by
  have h1 := cmp_neg ty a.nu a.n a.s b.nu b.n b.s
  have h2 := cmpI_neg s t
  unfold cmpR
  generalize cmp ty a.nu a.n a.s b.nu b.n b.s = p at *
  generalize cmp ty b.nu b.n b.s a.nu a.n a.s = q at *
  by_cases h : p = 0
  · rw [if_neg (by omega), if_neg (by omega)]; exact h2
  · rw [if_pos (by omega), if_pos h]; exact h1
theorem cmpR_le {ty : Int} {a b c : Vl} {s t u : Int} (h1 : cmpR ty a s b t ≤ 0) (h2 : cmpR ty b t c u ≤ 0) : cmpR ty a s c u ≤ 0 := by
  have n1 := cmp_neg ty a.nu a.n a.s b.nu b.n b.s
  have n2 := cmp_neg ty b.nu b.n b.s c.nu c.n c.s
  have n3 := cmp_neg ty a.nu a.n a.s c.nu c.n c.s
  have t1 := @cmp_le ty a.nu a.n a.s b.nu b.n b.s c.nu c.n c.s
  have t2 := @cmp_le ty b.nu b.n b.s c.nu c.n c.s a.nu a.n a.s
  have t3 := @cmp_le ty c.nu c.n c.s a.nu a.n a.s b.nu b.n b.s
  have i1 := @cmpI_le s t
  have i2 := @cmpI_le t u
  have i3 := @cmpI_le s u
  unfold cmpR at *
  generalize cmp ty a.nu a.n a.s b.nu b.n b.s = p at *
  generalize cmp ty b.nu b.n b.s c.nu c.n c.s = q at *
  generalize cmp ty a.nu a.n a.s c.nu c.n c.s = r at *
  generalize cmp ty b.nu b.n b.s a.nu a.n a.s = p' at *
  generalize cmp ty c.nu c.n c.s b.nu b.n b.s = q' at *
  generalize cmp ty c.nu c.n c.s a.nu a.n a.s = r' at *
  generalize cmpI s t = x at *
  generalize cmpI t u = y at *
  generalize cmpI s u = z at *
  by_cases hp : p = 0
  · rw [if_neg (by omega)] at h1
    by_cases hq : q = 0
    · rw [if_neg (by omega)] at h2
      have e1 := t1 (by omega) (by omega)
      by_cases hr : r = 0
      · rw [if_neg (by omega)]
        exact i3.2 (Int.le_trans (i1.1 h1) (i2.1 h2))
      · rw [if_pos hr]; exact e1
    · rw [if_pos hq] at h2
      have e1 := t1 (by omega) h2
      by_cases hr : r = 0
      · exfalso
        have := t3 (by omega) (by omega)
        omega
      · rw [if_pos hr]; exact e1
  · rw [if_pos hp] at h1
    by_cases hq : q = 0
    · rw [if_neg (by omega)] at h2
      have e1 := t1 h1 (by omega)
      by_cases hr : r = 0
      · exfalso
        have := t2 (by omega) (by omega)
        omega
      · rw [if_pos hr]; exact e1
    · rw [if_pos hq] at h2
      have e1 := t1 h1 h2
      by_cases hr : r = 0
      · exfalso
        have := t2 h2 (by omega)
        omega
      · rw [if_pos hr]; exact e1
/-- The key's value of a record. -/
def keyV (k : Nat) (r : Rc) : Vl := r.row.getD k vl0
/-- What Compare finds of the ranks of two records. -/
def cmpRec (ty : Int) (k : Nat) (a b : Rc) : Int := cmpR ty (keyV k a) a.seq (keyV k b) b.seq
def recLe (ty : Int) (k : Nat) (a b : Rc) : Bool := decide (cmpRec ty k a b ≤ 0)
theorem recLe_ord (ty : Int) (k : Nat) : Ord (recLe ty k) := by
  refine ⟨fun a b => ?_, fun a b c h1 h2 => ?_⟩
  · unfold recLe
    have := cmpR_neg ty (keyV k a) a.seq (keyV k b) b.seq
    by_cases h : cmpRec ty k a b ≤ 0
    · exact .inl (decide_eq_true h)
    · refine .inr (decide_eq_true ?_)
      unfold cmpRec at *; omega
  · exact decide_eq_true (cmpR_le (of_decide_eq_true h1) (of_decide_eq_true h2))
theorem recLe_neg {ty : Int} {k : Nat} {a b : Rc} : recLe ty k a b = false ↔ cmpRec ty k b a < 0 := by
  have := cmpR_neg ty (keyV k a) a.seq (keyV k b) b.seq
  unfold recLe cmpRec at *
  rw [decide_eq_false_iff_not]
  omega
/-- The records in order. -/
def srtR (ty : Int) (k : Nat) (l : List Rc) : List Rc := srtL (recLe ty k) l
theorem srtR_is {ty : Int} {k : Nat} {l out : List Rc} (h : IsS (recLe ty k) l out) : out = srtR ty k l := h.uniq (recLe_ord ty k) (srtL_spec (recLe_ord ty k) l)
section
variable {α : Type}
/-- The list in parts of n. -/
def prt (n : Nat) (l : List α) : List (List α) := if _h : l = [] ∨ n = 0 then [] else l.take n :: prt n (l.drop n)
termination_by l.length
decreasing_by
  have h1 : l ≠ [] := fun e => _h (.inl e)
  have h2 : 0 < l.length := List.length_pos_iff.2 h1
  have h3 : n ≠ 0 := fun e => _h (.inr e)
  rw [List.length_drop]; omega
theorem prt_nil (n : Nat) : prt n ([] : List α) = [] := by unfold prt; rw [dif_pos (.inl rfl)]
theorem prt_cons {n : Nat} (hn : 0 < n) {l : List α} (h : l ≠ []) : prt n l = l.take n :: prt n (l.drop n) := by
  rw [prt, dif_neg (by rintro (e | e); exact h e; omega)]
theorem prt_one {n : Nat} {l : List α} (h0 : 0 < l.length) (h : l.length ≤ n) : prt n l = [l] := by
  rw [prt_cons (by omega) (List.length_pos_iff.1 h0), List.take_of_length_le h, List.drop_eq_nil_of_le h, prt_nil]
theorem prt_app {n : Nat} (hn : 0 < n) : ∀ (k : Nat) (a b : List α), a.length = n * k → prt n (a ++ b) = prt n a ++ prt n b
  | 0, a, b, h => by
    have : a = [] := List.eq_nil_of_length_eq_zero (by omega)
    subst this; rw [prt_nil]; rfl
  | k + 1, a, b, h => by
    rw [Nat.mul_add, Nat.mul_one] at h
    have ha : a ≠ [] := fun e => by rw [e] at h; simp at h; omega
    rw [prt_cons hn (by simp [ha]), prt_cons hn ha, List.take_append_of_le_length (by omega), List.drop_append_of_le_length (by omega),
      prt_app hn k (a.drop n) b (by rw [List.length_drop]; omega)]
    rfl
/-- One part more: the next k elements, where k is n or what is left. -/
theorem prt_step {n i k : Nat} (hn : 0 < n) {l : List α} (hi : i < l.length) (hd : ∃ q, i = n * q) (hk : k = min n (l.length - i)) : prt n (l.take (i + k)) = prt n (l.take i) ++ [(l.drop i).take k] := by
  obtain ⟨q, hq⟩ := hd
  rw [List.take_add, prt_app hn q _ _ (by rw [List.length_take]; omega), prt_one (n := n) (l := (l.drop i).take k) (by rw [List.length_take, List.length_drop]; omega) (by rw [List.length_take, List.length_drop]; omega)]
theorem prt_flat {n : Nat} (hn : 0 < n) : ∀ (m : Nat) (l : List α), l.length ≤ m → (prt n l).flatten = l
  | 0, l, h => by
    have : l = [] := List.eq_nil_of_length_eq_zero (by omega)
    subst this; rw [prt_nil]; rfl
  | m + 1, l, h => by
    by_cases hl : l = []
    · subst hl; rw [prt_nil]; rfl
    · have := List.length_pos_iff.2 hl
      rw [prt_cons hn hl, List.flatten_cons, prt_flat hn m _ (by rw [List.length_drop]; omega), List.take_append_drop]
end
/-- Column c of records. -/
def colL (c : Nat) (l : List Rc) : List Vl := l.map fun r => r.row.getD c ⟨true, 0, ⟨#[]⟩⟩
end Go.RS
