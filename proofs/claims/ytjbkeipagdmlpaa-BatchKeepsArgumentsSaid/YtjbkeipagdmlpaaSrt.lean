/- Stable sorting: what a list in order is that keeps equal ones in their order; that there is only one; inserting, merging. -/
import Derived.Test.YtjbkeipagdmlpaaBase
namespace Go.ST
section
variable {α : Type} {le : α → α → Bool}
/-- A total order on classes of equal ones. -/
structure Ord (le : α → α → Bool) : Prop where
  total : ∀ a b, le a b = true ∨ le b a = true
  trans : ∀ a b c, le a b = true → le b c = true → le a c = true
def eqv (le : α → α → Bool) (a b : α) : Bool := le a b && le b a
/-- out is l in order, equal ones as they stood. -/
structure IsS (le : α → α → Bool) (l out : List α) : Prop where
  srt : out.Pairwise (fun a b => le a b = true)
  same : ∀ a, out.filter (eqv le a) = l.filter (eqv le a)
theorem Ord.refl (h : Ord le) (a : α) : le a a = true := by rcases h.total a a with h | h <;> exact h
theorem eqv_self (h : Ord le) (a : α) : eqv le a a = true := by unfold eqv; rw [h.refl]; rfl
theorem IsS.nil (le : α → α → Bool) : IsS le [] [] := ⟨List.Pairwise.nil, fun _ => rfl⟩
theorem IsS.mem (ho : Ord le) {l out : List α} (h : IsS le l out) (x : α) : x ∈ out ↔ x ∈ l := by
  have e := h.same x
  constructor
  · intro hx
    have : x ∈ out.filter (eqv le x) := List.mem_filter.2 ⟨hx, eqv_self ho x⟩
    rw [e] at this
    exact (List.mem_filter.1 this).1
  · intro hx
    have : x ∈ l.filter (eqv le x) := List.mem_filter.2 ⟨hx, eqv_self ho x⟩
    rw [← e] at this
    exact (List.mem_filter.1 this).1
/-- Two lists in order with the same classes are the same. -/
theorem srt_uniq (ho : Ord le) : ∀ (xs ys : List α), xs.Pairwise (fun a b => le a b = true) → ys.Pairwise (fun a b => le a b = true) → (∀ a, xs.filter (eqv le a) = ys.filter (eqv le a)) → xs = ys
  | [], [], _, _, _ => rfl
  | [], y :: ys, _, _, h => by
    have := h y
    rw [List.filter_cons, if_pos (eqv_self ho y)] at this
    cases this
  | x :: xs, [], _, _, h => by
    have := h x
    rw [List.filter_cons, if_pos (eqv_self ho x)] at this
    cases this
  | x :: xs, y :: ys, hx, hy, h => by
    have hx' := List.pairwise_cons.1 hx
    have hy' := List.pairwise_cons.1 hy
    have mem : ∀ (us vs : List α), (∀ a, us.filter (eqv le a) = vs.filter (eqv le a)) → ∀ z ∈ us, z ∈ vs := fun us vs hh z hz => by
      have : z ∈ us.filter (eqv le z) := List.mem_filter.2 ⟨hz, eqv_self ho z⟩
      rw [hh z] at this
      exact (List.mem_filter.1 this).1
    have h1 : le x y = true := by
      rcases List.mem_cons.1 (mem _ _ (fun a => (h a).symm) y (List.mem_cons_self ..)) with e | e
      · rw [e]; exact ho.refl x
      · exact hx'.1 y e
    have h2 : le y x = true := by
      rcases List.mem_cons.1 (mem _ _ h x (List.mem_cons_self ..)) with e | e
      · rw [e]; exact ho.refl y
      · exact hy'.1 x e
    have exy : eqv le x y = true := by unfold eqv; rw [h1, h2]; rfl
    have hh := h x
    rw [List.filter_cons, if_pos (eqv_self ho x), List.filter_cons, if_pos exy] at hh
    injection hh with hxy _
    subst hxy
    congr 1
    refine srt_uniq ho xs ys hx'.2 hy'.2 fun a => ?_
    have ha := h a
    rw [List.filter_cons, List.filter_cons] at ha
    split at ha
    · injection ha
    · exact ha
theorem IsS.uniq (ho : Ord le) {l a b : List α} (ha : IsS le l a) (hb : IsS le l b) : a = b := srt_uniq ho a b ha.srt hb.srt fun x => (ha.same x).trans (hb.same x).symm
/-- What is in order already is its own. -/
theorem IsS.self {l : List α} (h : l.Pairwise (fun a b => le a b = true)) : IsS le l l := ⟨h, fun _ => rfl⟩
/-- One more element, put behind all that are not greater. -/
theorem IsS.ins (ho : Ord le) {l a b : List α} {r : α} (h : IsS le l (a ++ b)) (ha : ∀ x ∈ a, le x r = true) (hb : ∀ x ∈ b, le x r = false) : IsS le (l ++ [r]) (a ++ r :: b) := by
  obtain ⟨h1, h2, h3⟩ := List.pairwise_append.1 h.srt
  have hrb : ∀ x ∈ b, le r x = true := fun x hx => by
    rcases ho.total r x with e | e
    · exact e
    · rw [hb x hx] at e; cases e
  refine ⟨List.pairwise_append.2 ⟨h1, List.pairwise_cons.2 ⟨hrb, h2⟩, fun x hx y hy => ?_⟩, fun c => ?_⟩
  · rcases List.mem_cons.1 hy with rfl | hy
    · exact ha x hx
    · exact h3 x hx y hy
  · have hs := h.same c
    rw [List.filter_append] at hs
    rw [List.filter_append, List.filter_append, ← hs, List.append_assoc]
    congr 1
    rw [List.filter_cons]
    by_cases hc : eqv le c r = true
    · rw [if_pos hc]
      have hb0 : b.filter (eqv le c) = [] := List.filter_eq_nil_iff.2 fun x hx e => by
        unfold eqv at hc e
        simp only [Bool.and_eq_true] at hc e
        have := ho.trans x c r e.2 hc.1
        rw [hb x hx] at this; cases this
      rw [hb0]
      simp [hc]
    · rw [if_neg hc]
      have : [r].filter (eqv le c) = [] := by rw [List.filter_cons, if_neg hc]; rfl
      rw [this, List.append_nil]
/-- Two lists in order, joined: the lesser first, of equal ones the left one's first. -/
def mrg (le : α → α → Bool) : List α → List α → List α
  | [], ys => ys
  | x :: xs, [] => x :: xs
  | x :: xs, y :: ys => if le x y then x :: mrg le xs (y :: ys) else y :: mrg le (x :: xs) ys
termination_by a b => a.length + b.length
theorem mrg_nil (ys : List α) : mrg le [] ys = ys := by unfold mrg; rfl
theorem mrg_nil' (xs : List α) : mrg le xs [] = xs := by cases xs <;> (unfold mrg; rfl)
theorem mrg_le {x y : α} {xs ys : List α} (h : le x y = true) : mrg le (x :: xs) (y :: ys) = x :: mrg le xs (y :: ys) := by rw [mrg, if_pos h]
theorem mrg_gt {x y : α} {xs ys : List α} (h : le x y = false) : mrg le (x :: xs) (y :: ys) = y :: mrg le (x :: xs) ys := by rw [mrg, if_neg (by rw [h]; decide)]
theorem mrg_spec (ho : Ord le) : ∀ (n : Nat) (xs ys : List α), xs.length + ys.length = n → xs.Pairwise (fun a b => le a b = true) → ys.Pairwise (fun a b => le a b = true) →
    (mrg le xs ys).Pairwise (fun a b => le a b = true) ∧ (∀ c, (mrg le xs ys).filter (eqv le c) = xs.filter (eqv le c) ++ ys.filter (eqv le c)) ∧ ∀ z, z ∈ mrg le xs ys → z ∈ xs ∨ z ∈ ys
  | _, [], ys, _, _, hy => by rw [mrg_nil]; exact ⟨hy, fun _ => rfl, fun z hz => .inr hz⟩
  | _, x :: xs, [], _, hx, _ => by rw [mrg_nil']; exact ⟨hx, fun c => by simp, fun z hz => .inl hz⟩
  | 0, x :: xs, y :: ys, hn, _, _ => by simp at hn
  | n + 1, x :: xs, y :: ys, hn, hx, hy => by
    have hx' := List.pairwise_cons.1 hx
    have hy' := List.pairwise_cons.1 hy
    cases h : le x y with
    | true =>
      obtain ⟨i1, i2, i3⟩ := mrg_spec ho n xs (y :: ys) (by simp only [List.length_cons] at hn ⊢; omega) hx'.2 hy
      rw [mrg_le h]
      refine ⟨List.pairwise_cons.2 ⟨fun z hz => ?_, i1⟩, fun c => ?_, fun z hz => ?_⟩
      · rcases i3 z hz with hz | hz
        · exact hx'.1 z hz
        · rcases List.mem_cons.1 hz with rfl | hz
          · exact h
          · exact ho.trans x y z h (hy'.1 z hz)
      · rw [List.filter_cons, List.filter_cons, i2 c]
        split <;> simp
      · rcases List.mem_cons.1 hz with rfl | hz
        · exact .inl (List.mem_cons_self ..)
        · rcases i3 z hz with hz | hz
          · exact .inl (List.mem_cons_of_mem _ hz)
          · exact .inr hz
    | false =>
      have hyx : le y x = true := by
        rcases ho.total x y with e | e
        · rw [h] at e; cases e
        · exact e
      obtain ⟨i1, i2, i3⟩ := mrg_spec ho n (x :: xs) ys (by simp only [List.length_cons] at hn ⊢; omega) hx hy'.2
      rw [mrg_gt h]
      refine ⟨List.pairwise_cons.2 ⟨fun z hz => ?_, i1⟩, fun c => ?_, fun z hz => ?_⟩
      · rcases i3 z hz with hz | hz
        · rcases List.mem_cons.1 hz with rfl | hz
          · exact hyx
          · exact ho.trans y x z hyx (hx'.1 z hz)
        · exact hy'.1 z hz
      · rw [List.filter_cons, i2 c, List.filter_cons (x := y)]
        by_cases hc : eqv le c y = true
        · rw [if_pos hc, if_pos hc]
          have h0 : (x :: xs).filter (eqv le c) = [] := List.filter_eq_nil_iff.2 fun z hz e => by
            unfold eqv at hc e
            simp only [Bool.and_eq_true] at hc e
            have hxz : le x z = true := by
              rcases List.mem_cons.1 hz with rfl | hz
              · exact ho.refl z
              · exact hx'.1 z hz
            have := ho.trans x z y hxz (ho.trans z c y e.2 hc.1)
            rw [h] at this; cases this
          rw [h0]; rfl
        · rw [if_neg hc, if_neg hc]
      · rcases List.mem_cons.1 hz with rfl | hz
        · exact .inr (List.mem_cons_self ..)
        · rcases i3 z hz with hz | hz
          · exact .inl hz
          · exact .inr (List.mem_cons_of_mem _ hz)
theorem IsS.mrg (ho : Ord le) {l m a b : List α} (ha : IsS le l a) (hb : IsS le m b) : IsS le (l ++ m) (mrg le a b) := by
  obtain ⟨h1, h2, _⟩ := mrg_spec ho _ a b rfl ha.srt hb.srt
  exact ⟨h1, fun c => by rw [h2 c, ha.same c, hb.same c, List.filter_append]⟩
/-- The order of sorting: what the reference's insertion gives. -/
def insR (le : α → α → Bool) (out : List α) (r : α) : List α := out.takeWhile (le · r) ++ r :: out.dropWhile (le · r)
def srtL (le : α → α → Bool) (l : List α) : List α := l.foldl (insR le) []
theorem takeWhile_all {p : α → Bool} : ∀ (l : List α) (x : α), x ∈ l.takeWhile p → p x = true
  | [], x, h => by simp at h
  | y :: l, x, h => by
    rw [List.takeWhile_cons] at h
    split at h
    · rename_i hy
      rcases List.mem_cons.1 h with rfl | h
      · exact hy
      · exact takeWhile_all l x h
    · simp at h
theorem dropWhile_none (ho : Ord le) (r : α) : ∀ (l : List α), l.Pairwise (fun a b => le a b = true) → ∀ x ∈ l.dropWhile (le · r), le x r = false
  | [], _, x, h => by simp at h
  | y :: l, hp, x, h => by
    have hp' := List.pairwise_cons.1 hp
    rw [List.dropWhile_cons] at h
    split at h
    · exact dropWhile_none ho r l hp'.2 x h
    · rename_i hy
      have hy' : le y r = false := by simpa using hy
      rcases List.mem_cons.1 h with rfl | h
      · exact hy'
      · cases hx : le x r with
        | false => rfl
        | true => rw [ho.trans y x r (hp'.1 x h) hx] at hy'; cases hy'
theorem IsS.insR (ho : Ord le) {l out : List α} (h : IsS le l out) (r : α) : IsS le (l ++ [r]) (insR le out r) := by
  have e : out.takeWhile (le · r) ++ out.dropWhile (le · r) = out := List.takeWhile_append_dropWhile
  exact IsS.ins ho (by rw [e]; exact h) (fun x hx => takeWhile_all _ x hx) (dropWhile_none ho r out h.srt)
theorem srtL_spec (ho : Ord le) (l : List α) : IsS le l (srtL le l) := by
  have key : ∀ (r l out : List α), IsS le l out → IsS le (l ++ r) (r.foldl (Go.ST.insR le) out) := by
    intro r
    induction r with
    | nil => intro l out h; simpa using h
    | cons x r ih =>
      intro l out h
      have := ih (l ++ [x]) (Go.ST.insR le out x) (h.insR ho x)
      simpa using this
  simpa [srtL] using key l [] [] (IsS.nil le)
end
end Go.ST
