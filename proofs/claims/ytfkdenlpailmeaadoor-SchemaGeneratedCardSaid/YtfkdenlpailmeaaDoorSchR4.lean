/- The walk over the reference's ParseSchema. -/
import Derived.Test.YtfkdenlpailmeaaDoorSchR3
import Derived.Test.YtfkdenlpailmeaaDoorSchC5
namespace Go.SC
open Go.RowKit Go.VB Go.VL
/-- How far ParseSchema has come: the columns cs out of k lines, the key n at line q (0: none yet); what is left is unl ts tail. -/
def PAt (tail : List UInt8) (ts : List (List UInt8)) (cs : List Col) (n : List UInt8) (k q : Nat) (R : PRes) : Prop :=
  (q = 0 ∧ plr tail ts cs k = R) ∨ (q = k ∧ 1 ≤ k ∧ (unl ts tail = [] → R = .ok cs n k) ∧ (unl ts tail ≠ [] → R = .bad (k + 1)))
section
variable {tail t : List UInt8} {ts : List (List UInt8)} {cs : List Col} {n n' : List UInt8} {k q : Nat} {R : PRes} {c : Col}
theorem PAt.bad_tail (h : PAt tail [] cs n k q R) (ht : tail ≠ []) : R = .bad (k + 1) := by
  rcases h with ⟨_, h⟩ | ⟨_, _, _, h⟩
  · rw [← h, plr_open ht]
  · exact h ht
theorem PAt.bad_key (h : PAt tail (t :: ts) cs n k q R) (hq : 0 < q) : R = .bad (k + 1) := by
  rcases h with ⟨h, _⟩ | ⟨_, _, _, h⟩
  · omega
  · exact h (by rw [unl_cons]; simp)
theorem PAt.bad_line (h : PAt tail (t :: ts) cs n k q R) (h1 : ¬ ∃ n, isKey t n) (h2 : ¬ ∃ c, isCol t c) : R = .bad (k + 1) := by
  rcases h with ⟨_, h⟩ | ⟨_, _, _, h⟩
  · rw [← h, plr_bad h1 h2]
  · exact h (by rw [unl_cons]; simp)
theorem PAt.key (h : PAt tail (t :: ts) cs n k 0 R) (hk : isKey t n') : PAt tail ts cs n' (k + 1) (k + 1) R := by
  rcases h with ⟨_, h⟩ | ⟨h1, h2, _⟩
  · refine .inr ⟨rfl, by omega, fun hu => ?_, fun hu => ?_⟩
    · cases ts with
      | nil => rw [unl_nil] at hu; subst hu; rw [← h, plr_key hk rfl]
      | cons _ _ => rw [unl_cons] at hu; simp at hu
    · rw [← h, plr_more hk hu]
  · omega
theorem PAt.col (h : PAt tail (t :: ts) cs n k 0 R) (h1 : ¬ ∃ n, isKey t n) (h2 : isCol t c) : PAt tail ts (cs ++ [c]) n (k + 1) 0 R := by
  rcases h with ⟨_, h⟩ | ⟨h3, h4, _⟩
  · exact .inl ⟨rfl, by rw [← h, plr_col h1 h2]⟩
  · omega
theorem PAt.end0 (h : PAt tail ts cs n k 0 R) (hu : unl ts tail = []) : R = .bad 0 := by
  rcases h with ⟨_, h⟩ | ⟨h1, h2, _⟩
  · cases ts with
    | nil => rw [unl_nil] at hu; rw [← h, plr_end hu]
    | cons _ _ => rw [unl_cons] at hu; simp at hu
  · omega
theorem PAt.end1 (h : PAt tail ts cs n k q R) (hq : 0 < q) (hu : unl ts tail = []) : R = .ok cs n q := by
  rcases h with ⟨h, _⟩ | ⟨h1, _, h2, _⟩
  · omega
  · rw [h1]; exact h2 hu
end
theorem Var2.other {w : World} {b c i : Nat} {x y u : Value} (h : Var2 w b x y) (hc : b ≠ c) : Var2 (w.setCell ⟨c, i, none⟩ u) b x y := by
  have hk : ∀ j : Nat, (⟨c, i, none⟩ : Addr) ≠ ⟨b, j, none⟩ := fun j e => hc (congrArg Addr.block e).symm
  constructor
  · rw [World.cell?_setCell_other _ _ _ _ (hk _)]; exact h.c0
  · rw [World.cell?_setCell_other _ _ _ _ (hk _)]; exact h.c1
  · rw [World.frozen?_setCell]; exact h.f0
  · rw [World.frozen?_setCell]; exact h.f1
theorem Var2.set0 {w : World} {b : Nat} {x y : Value} (h : Var2 w b x y) (x' : Value) : Var2 (w.setCell ⟨b, 0, none⟩ x') b x' y := by
  constructor
  · exact World.cell?_setCell_same _ _ _ h.c0
  · rw [World.cell?_setCell_other _ _ _ _ (by simp)]; exact h.c1
  · rw [World.frozen?_setCell]; exact h.f0
  · rw [World.frozen?_setCell]; exact h.f1
theorem getD_drop (l : List UInt8) (f p : Nat) (h : f ≤ p) : l.getD p 0 = (l.drop f).getD (p - f) 0 := by
  rw [List.getD_eq_getElem?_getD, List.getD_eq_getElem?_getD, List.getElem?_drop, show f + (p - f) = p from by omega]
theorem not_mem_getD {t : List UInt8} {b : UInt8} (h : b ∉ t) {i : Nat} (hi : i < t.length) : t.getD i 0 ≠ b := fun e => h (by
  rw [← e, List.getD_eq_getElem?_getD, List.getElem?_eq_getElem hi]; exact List.getElem_mem hi)
/-- A line within a text. -/
theorem pos_cons {l t r : List UInt8} {f : Nat} (h : l.drop f = t ++ 10 :: r) (hn : (10 : UInt8) ∉ t) :
    f + t.length < l.length ∧ (∀ p, f ≤ p → p < f + t.length → l.getD p 0 ≠ 10) ∧ l.getD (f + t.length) 0 = 10 ∧ (l.drop f).take (f + t.length - f) = t ∧ l.drop (f + t.length + 1) = r ∧ l.length = f + t.length + 1 + r.length := by
  have hl := congrArg List.length h
  simp at hl
  refine ⟨by omega, fun p h1 h2 => ?_, ?_, ?_, ?_, by omega⟩
  · rw [getD_drop l f p h1, h, List.getD_eq_getElem?_getD, List.getElem?_append_left (by omega), ← List.getD_eq_getElem?_getD]
    exact not_mem_getD hn (by omega)
  · rw [getD_drop l f _ (by omega), h, show f + t.length - f = t.length from by omega]; simp
  · rw [h, show f + t.length - f = t.length from by omega, List.take_left]
  · have : l.drop (f + t.length + 1) = (l.drop f).drop (t.length + 1) := by rw [List.drop_drop]; congr 1
    rw [this, h]; simp
theorem pos_nil {l t : List UInt8} {f : Nat} (h : l.drop f = t) (hn : (10 : UInt8) ∉ t) (hf : f ≤ l.length) : l.length = f + t.length ∧ ∀ p, f ≤ p → p < l.length → l.getD p 0 ≠ 10 := by
  have hl := congrArg List.length h
  simp at hl
  refine ⟨by omega, fun p h1 h2 => ?_⟩
  rw [getD_drop l f p h1, h]
  exact not_mem_getD hn (by omega)
theorem ne10 {b : UInt8} (h : b ≠ 10) : ((b.toNat : Int) != 10) = true := ine_t (fun e => h (UInt8.toNat_inj.1 (by rw [show (10 : UInt8).toNat = 10 from rfl]; omega)))
end Go.SC
namespace Go.Proofs.YtfkdenlpailmeaaDoor
open Go.RowKit Go.VB Go.VL Go.SC
set_option linter.constructorNameAsVariable false
end Go.Proofs.YtfkdenlpailmeaaDoor
