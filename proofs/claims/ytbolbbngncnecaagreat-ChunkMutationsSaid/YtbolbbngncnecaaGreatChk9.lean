/- Chunks: what a wrong payload leaves; one value of the codec Plain; what getNulls finds. -/
import Derived.Test.YtbolbbngncnecaaGreatChk8
namespace Go.CK
open Go.RowKit Go.VB Go.VarM Go.BP Go.RL Go.VS Go.VL Go.NU Go.Proofs.YtbolbbngncnecaaGreat
theorem dec_nil (s : ByteArray) (n : Nat) : ∀ (m : Nat) (l : List Int) (p : Int), n - l.length ≤ m → (dec s n p l).2 ≠ 0 → (dec s n p l).1 = [] := by
  intro m
  induction m with
  | zero =>
    intro l p hm h
    rw [dec, if_neg (by omega)] at h ⊢
    by_cases h1 : p < s.size
    · rw [if_pos h1]
    · rw [if_neg h1] at h; exact absurd rfl h
  | succ m ih =>
    intro l p hm h
    rw [dec] at h ⊢
    by_cases h1 : l.length < n
    · rw [if_pos h1] at h ⊢
      by_cases h2 : (getR s p).2.2 ≠ 0
      · rw [if_pos h2]
      · rw [if_neg h2] at h ⊢
        by_cases h3 : (getR s p).1 = 0 ∨ n - l.length < (getR s p).1
        · rw [dif_pos h3]
        · rw [dif_neg h3] at h ⊢
          by_cases h4 : (getR s (getR s p).2.1).2.2 ≠ 0
          · rw [if_pos h4]
          · rw [if_neg h4] at h ⊢
            by_cases h5 : l.getLast? = some (zagN (getR s (getR s p).2.1).1)
            · rw [if_pos h5]
            · rw [if_neg h5] at h ⊢
              exact ih _ _ (by rw [List.length_append, List.length_replicate]; omega) h
    · rw [if_neg h1] at h ⊢
      by_cases h2 : p < s.size
      · rw [if_pos h2]
      · rw [if_neg h2] at h; exact absurd rfl h
theorem decB_nil (s : ByteArray) : ∀ (k m : Nat) (l : List Int) (p : Int), m ≤ k → (Go.DL.decB s m p l).2 ≠ 0 → (Go.DL.decB s m p l).1 = [] := by
  intro k
  induction k with
  | zero =>
    intro m l p hm h
    obtain rfl : m = 0 := by omega
    by_cases h1 : p < s.size
    · rw [Go.DL.decB_left rfl h1]
    · rw [Go.DL.decB_done rfl h1] at h; exact absurd rfl h
  | succ k ih =>
    intro m l p hm h
    by_cases h0 : m = 0
    · by_cases h1 : p < s.size
      · rw [Go.DL.decB_left h0 h1]
      · rw [Go.DL.decB_done h0 h1] at h; exact absurd rfl h
    · obtain ⟨d, q, e, hg⟩ : ∃ d q e, Go.DL.getB s p (min m 32) = (d, q, e) := ⟨_, _, _, rfl⟩
      by_cases he : e = 0
      · subst he
        rw [Go.DL.decB_go h0 rfl hg] at h ⊢
        exact ih _ _ _ (by omega) h
      · rw [Go.DL.decB_e h0 rfl hg he]
theorem decR_bad {s : ByteArray} {n : Nat} (h : (decR s n).2 ≠ 0) : (decR s n).1 = [] := by
  unfold decR at h ⊢
  by_cases h1 : (n : Int) < 0 ∨ 4096 < (n : Int)
  · rw [if_pos h1]
  · rw [if_neg h1] at h ⊢
    exact dec_nil s _ _ _ _ (Nat.le_refl _) h
theorem decX_bad {s : ByteArray} {n : Nat} (h : (Go.DL.decX s n).2 ≠ 0) : (Go.DL.decX s n).1 = [] := by
  unfold Go.DL.decX at h ⊢
  by_cases h1 : (n : Int) < 0 ∨ 4096 < (n : Int)
  · rw [if_pos h1]
  · rw [if_neg h1] at h ⊢
    by_cases h2 : (n : Int) = 0
    · rw [if_pos h2] at h ⊢
      by_cases h3 : s.size = 0
      · rw [if_pos h3]
      · rw [if_neg h3]
    · rw [if_neg h2] at h ⊢
      by_cases h3 : (getR s 0).2.2 ≠ 0
      · rw [if_pos h3]
      · rw [if_neg h3] at h ⊢
        exact decB_nil s _ _ _ _ (Nat.le_refl _) h
theorem lkR_bad {ws : List ByteArray} {u : List Nat} (h : (Go.DI.lkR ws u).2 ≠ 0) : (Go.DI.lkR ws u).1 = [] := by
  unfold Go.DI.lkR at h ⊢
  by_cases h1 : (∀ i ∈ u, i < ws.length) ∧ (∀ j, j < ws.length → j ∈ u)
  · rw [if_pos h1] at h; exact absurd rfl h
  · rw [if_neg h1]
theorem decD_bad {s : ByteArray} {n : Nat} (h : (Go.DI.decD s n).2 ≠ 0) : (Go.DI.decD s n).1 = [] := by
  unfold Go.DI.decD at h ⊢
  generalize Go.DI.dws s (getR s 0).1 (getR s 0).2.1 [] = D at *
  generalize unpackR (s.extract D.2.1.toNat s.size) n (Go.DI.wdt (getR s 0).1 : Nat) = U at *
  by_cases h1 : (n : Int) < 0 ∨ 4096 < (n : Int)
  · rw [if_pos h1]
  · rw [if_neg h1] at h ⊢
    by_cases h2 : (getR s 0).2.2 ≠ 0
    · rw [if_pos h2]
    · rw [if_neg h2] at h ⊢
      by_cases h3 : (n : Int) < (getR s 0).1 ∨ ((getR s 0).1 = 0 ∧ 0 < (n : Int))
      · rw [if_pos h3]
      · rw [if_neg h3] at h ⊢
        by_cases h4 : D.2.2 ≠ 0
        · rw [if_pos h4]
        · rw [if_neg h4] at h ⊢
          by_cases h5 : U.2 ≠ 0
          · rw [if_pos h5]
          · rw [if_neg h5] at h ⊢
            exact lkR_bad h
theorem decR_le {s : ByteArray} {n : Nat} (hn : n ≤ 4096) : (decR s n).1.length ≤ 4096 := by
  by_cases h : (decR s n).2 = 0
  · rw [(decR_only hn (r := (decR s n).1) (Prod.ext rfl h)).2.1]; exact hn
  · rw [decR_bad h]; decide
theorem decX_le {s : ByteArray} {n : Nat} (hn : n ≤ 4096) : (Go.DL.decX s n).1.length ≤ 4096 := by
  by_cases h : (Go.DL.decX s n).2 = 0
  · rw [decX_len hn (r := (Go.DL.decX s n).1) (Prod.ext rfl h)]; exact hn
  · rw [decX_bad h]; decide
theorem decD_le {s : ByteArray} {n : Nat} (hn : n ≤ 4096) : (Go.DI.decD s n).1.length ≤ 4096 := by
  by_cases h : (Go.DI.decD s n).2 = 0
  · rw [(Go.DI.decD_only hn (r := (Go.DI.decD s n).1) (Prod.ext rfl h)).2.1]; exact hn
  · rw [decD_bad h]; decide
/-- One value of the codec Plain: the value, the place behind it, whether there is one. -/
def pv1 (typ : Int) (s : ByteArray) (p : Int) : Vl × Int × Bool :=
  if (getR s p).2.2 ≠ 0 then (vl0, 0, false)
  else if typ ≠ 3 then (⟨false, zagN (getR s p).1, ⟨#[]⟩⟩, (getR s p).2.1, true)
  else if (s.size : Int) - (getR s p).2.1 < (getR s p).1 then (vl0, 0, false)
  else (⟨false, 0, s.extract (getR s p).2.1.toNat ((getR s p).2.1.toNat + (getR s p).1)⟩, (getR s p).2.1 + (getR s p).1, true)
theorem plain_step (typ : Int) (s : ByteArray) (m : Nat) (p : Int) (acc : List Vl) : plainD typ s (m + 1) p acc = if (pv1 typ s p).2.2 then plainD typ s m (pv1 typ s p).2.1 (acc ++ [(pv1 typ s p).1]) else none := by
  rw [plainD]
  unfold pv1
  by_cases h1 : (getR s p).2.2 ≠ 0
  · rw [if_pos h1, if_pos h1]; rfl
  · rw [if_neg h1, if_neg h1]
    by_cases h2 : typ ≠ 3
    · rw [if_pos h2, if_pos h2]; rfl
    · rw [if_neg h2, if_neg h2]
      by_cases h3 : (s.size : Int) - (getR s p).2.1 < (getR s p).1
      · rw [if_pos h3, if_pos h3]; rfl
      · rw [if_neg h3, if_neg h3]; rfl
section
variable {typ : Int} {s : ByteArray} {p : Int} {a e : Nat} {b : Int}
theorem pv1_e (hg : getR s p = (a, b, e)) (he : e ≠ 0) : pv1 typ s p = (vl0, 0, false) := by unfold pv1; rw [hg, if_pos he]
theorem pv1_num (hg : getR s p = (a, b, 0)) (ht : typ ≠ 3) : pv1 typ s p = (⟨false, zagN a, ⟨#[]⟩⟩, b, true) := by unfold pv1; rw [hg, if_neg (by simp), if_pos ht]
theorem pv1_long (hg : getR s p = (a, b, 0)) (h : (s.size : Int) - b < a) : pv1 3 s p = (vl0, 0, false) := by unfold pv1; rw [hg, if_neg (by simp), if_neg (by simp), if_pos h]
theorem pv1_text {b : Nat} (hg : getR s p = (a, (b : Int), 0)) (h : b + a ≤ s.size) : pv1 3 s p = (⟨false, 0, s.extract b (b + a)⟩, (b : Int) + a, true) := by
  unfold pv1; rw [hg, if_neg (by simp), if_neg (by simp), if_neg (by simp only; omega)]; simp
end
end Go.CK
