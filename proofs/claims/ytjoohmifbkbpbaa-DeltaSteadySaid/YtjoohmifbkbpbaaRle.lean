/- Runs: lists of whole numbers, the runs of a list, its encoding, and what Decode finds in a text. -/
import Derived.Test.YtjoohmifbkbpbaaVarRef
namespace Go.RL
open Go.RowKit Go.VB Go.VarM Go.Proofs.Ytjoohmifbkbpbaa

/-- The number of elements at the beginning that equal v. -/
def fr (v : Int) : List Int → Nat
  | [] => 0
  | x :: r => if x = v then fr v r + 1 else 0
theorem fr_le (v : Int) : ∀ l, fr v l ≤ l.length
  | [] => Nat.le_refl _
  | x :: r => by
    have := fr_le v r
    unfold fr; split <;> simp <;> omega
theorem fr_drop (v : Int) : ∀ l : List Int, (l.drop (fr v l)).head? ≠ some v
  | [] => by simp [fr]
  | x :: r => by
    unfold fr
    by_cases h : x = v
    · rw [if_pos h, List.drop_succ_cons]; exact fr_drop v r
    · rw [if_neg h]; simpa using h
theorem fr_take (v : Int) : ∀ l, l.take (fr v l) = List.replicate (fr v l) v
  | [] => rfl
  | x :: r => by
    unfold fr
    by_cases h : x = v
    · rw [if_pos h, List.take_succ_cons, fr_take v r, List.replicate_succ, h]
    · rw [if_neg h]; rfl
theorem fr_rep (v : Int) : ∀ k, fr v (List.replicate k v) = k
  | 0 => rfl
  | k + 1 => by rw [List.replicate_succ, fr, if_pos rfl, fr_rep v k]
theorem fr_zero {v : Int} {l : List Int} (h : l.head? ≠ some v) : fr v l = 0 := by
  cases l with
  | nil => rfl
  | cons x r => rw [fr, if_neg (fun e => h (by simp [e]))]
theorem fr_app_lt {v : Int} : ∀ {l : List Int} (m : List Int), fr v l < l.length → fr v (l ++ m) = fr v l
  | [], _, h => by simp [fr] at h
  | x :: r, m, h => by
    unfold fr at h ⊢
    by_cases hx : x = v
    · rw [if_pos hx] at h
      simp only [List.length_cons] at h
      rw [List.cons_append]
      simp only [hx, if_true]
      rw [fr_app_lt m (by omega)]
    · simp only [List.cons_append, if_neg hx]
theorem fr_app_eq {v : Int} : ∀ {l : List Int} (m : List Int), fr v l = l.length → fr v (l ++ m) = l.length + fr v m
  | [], _, _ => by simp
  | x :: r, m, h => by
    unfold fr at h
    by_cases hx : x = v
    · rw [if_pos hx, List.length_cons] at h
      rw [List.cons_append, fr, if_pos hx, fr_app_eq m (by omega), List.length_cons]; omega
    · rw [if_neg hx, List.length_cons] at h; omega
/-- One more equal element, one less that is left. -/
theorem fr_step {v : Int} {l : List Int} {j : Nat} (h : l[j]? = some v) : fr v (l.drop j) = fr v (l.drop (j + 1)) + 1 := by
  obtain ⟨hj, he⟩ := List.getElem?_eq_some_iff.1 h
  rw [List.drop_eq_getElem_cons hj, fr, if_pos he]
theorem fr_stop {v x : Int} {l : List Int} {j : Nat} (h : l[j]? = some x) (hx : x ≠ v) : fr v (l.drop j) = 0 := by
  obtain ⟨hj, he⟩ := List.getElem?_eq_some_iff.1 h
  rw [List.drop_eq_getElem_cons hj, fr, if_neg (by rw [he]; exact hx)]
theorem fr_end {v : Int} {l : List Int} {j : Nat} (h : l.length ≤ j) : fr v (l.drop j) = 0 := by
  rw [List.drop_eq_nil_of_le h]; rfl

/-- The bytes of one run. -/
def run1 (k : Nat) (v : Int) : List UInt8 := putL k ++ putL (zigN v).toNat
/-- The encoding of a list. -/
def encR : List Int → List UInt8
  | [] => []
  | x :: r => run1 (fr x r + 1) x ++ encR (r.drop (fr x r))
termination_by l => l.length
decreasing_by simp; omega
/-- The number of runs. -/
def nR : List Int → Nat
  | [] => 0
  | x :: r => nR (r.drop (fr x r)) + 1
termination_by l => l.length
decreasing_by simp; omega
theorem encR_nil : encR [] = [] := by rw [encR]
theorem encR_cons (x : Int) (r : List Int) : encR (x :: r) = run1 (fr x r + 1) x ++ encR (r.drop (fr x r)) := by rw [encR]
theorem nR_nil : nR [] = 0 := by rw [nR]
theorem nR_cons (x : Int) (r : List Int) : nR (x :: r) = nR (r.drop (fr x r)) + 1 := by rw [nR]
/-- At a place of a list. -/
theorem drop_run {l : List Int} {i : Nat} {x : Int} (h : l[i]? = some x) : fr x (l.drop i) = fr x (l.drop (i + 1)) + 1 ∧ l.drop (i + fr x (l.drop i)) = (l.drop (i + 1)).drop (fr x (l.drop (i + 1))) := by
  have e := fr_step h
  refine ⟨e, ?_⟩
  rw [e, List.drop_drop]; congr 1; omega
theorem encR_at {l : List Int} {i : Nat} {x : Int} (h : l[i]? = some x) : encR (l.drop i) = run1 (fr x (l.drop i)) x ++ encR (l.drop (i + fr x (l.drop i))) := by
  obtain ⟨e1, e2⟩ := drop_run h
  obtain ⟨hj, he⟩ := List.getElem?_eq_some_iff.1 h
  rw [e2, e1, List.drop_eq_getElem_cons hj, encR_cons, he]
theorem nR_at {l : List Int} {i : Nat} {x : Int} (h : l[i]? = some x) : nR (l.drop i) = nR (l.drop (i + fr x (l.drop i))) + 1 := by
  obtain ⟨e1, e2⟩ := drop_run h
  obtain ⟨hj, he⟩ := List.getElem?_eq_some_iff.1 h
  rw [e2, List.drop_eq_getElem_cons hj, nR_cons, he]
theorem fr_at {l : List Int} {i : Nat} {x : Int} (h : l[i]? = some x) : 1 ≤ fr x (l.drop i) ∧ i + fr x (l.drop i) ≤ l.length := by
  obtain ⟨hj, _⟩ := List.getElem?_eq_some_iff.1 h
  have h1 := fr_step h
  have h2 := fr_le x (l.drop i)
  rw [List.length_drop] at h2
  omega

/-! sizes -/
def I64 (l : List Int) : Prop := ∀ z ∈ l, -9223372036854775808 ≤ z ∧ z ≤ 9223372036854775807
theorem I64.of {l : List Int} (h : ∀ z ∈ l, (Lit.int .i64 z).wf = true) : I64 l := fun z hz => bounds_i64 (h z hz)
theorem I64.drop {l : List Int} (h : I64 l) (n : Nat) : I64 (l.drop n) := fun z hz => h z (List.mem_of_mem_drop hz)
theorem I64.at {l : List Int} (h : I64 l) {i : Nat} {x : Int} (hx : l[i]? = some x) : -9223372036854775808 ≤ x ∧ x ≤ 9223372036854775807 := h x (List.mem_of_getElem? hx)
theorem I64.tail {x : Int} {l : List Int} (h : I64 (x :: l)) : I64 l := fun z hz => h z (List.mem_cons_of_mem _ hz)
theorem I64.head {x : Int} {l : List Int} (h : I64 (x :: l)) : -9223372036854775808 ≤ x ∧ x ≤ 9223372036854775807 := h x (List.mem_cons_self ..)
theorem zig_lt {v : Int} (h : -9223372036854775808 ≤ v ∧ v ≤ 9223372036854775807) : (zigN v).toNat < 18446744073709551616 := by
  have := zig_bd h.1 h.2; omega
theorem putL_self : ∀ k, 1 ≤ k → (putL k).length ≤ k := by
  intro k
  induction k using Nat.strongRecOn with
  | _ k ih =>
    intro hk
    by_cases h : k < 128
    · rw [putL_lt h]; simpa using hk
    · rw [putL_ge h, List.length_cons]
      have := ih (k / 128) (by omega) (by omega)
      omega
theorem run1_le {k : Nat} {v : Int} (hk : 1 ≤ k) (h : -9223372036854775808 ≤ v ∧ v ≤ 9223372036854775807) : (run1 k v).length ≤ k + 10 := by
  have h1 := putL_self k hk
  have h2 := putL_len10 (zig_lt h)
  unfold run1; rw [List.length_append]; omega
theorem run1_ge (k : Nat) (v : Int) : 2 ≤ (run1 k v).length := by
  have h1 := putL_pos k
  have h2 := putL_pos (zigN v).toNat
  unfold run1; rw [List.length_append]; omega
theorem run1_le12 {k : Nat} {v : Int} (hk : k < 16384) (h : -9223372036854775808 ≤ v ∧ v ≤ 9223372036854775807) : (run1 k v).length ≤ 12 := by
  have h1 := putL_len (n := k) 2 (by omega) (by decide)
  have h2 := putL_len10 (zig_lt h)
  unfold run1; rw [List.length_append]; omega
theorem enc_sizes : ∀ (n : Nat) (l : List Int), l.length ≤ n → I64 l → (encR l).length ≤ 11 * l.length ∧ 2 * nR l ≤ (encR l).length ∧ nR l ≤ l.length ∧ (l.length < 16384 → (encR l).length ≤ 12 * nR l) := by
  intro n
  induction n with
  | zero =>
    intro l hl _
    have : l = [] := List.eq_nil_of_length_eq_zero (by omega)
    subst this
    rw [encR_nil, nR_nil]; simp
  | succ n ih =>
    intro l hl hi
    cases l with
    | nil => rw [encR_nil, nR_nil]; simp
    | cons x r =>
      have hf := fr_le x r
      have hd : (r.drop (fr x r)).length = r.length - fr x r := List.length_drop
      simp only [List.length_cons] at hl
      obtain ⟨h1, h2, h3, h4⟩ := ih (r.drop (fr x r)) (by omega) (hi.tail.drop _)
      have r1 := run1_le (k := fr x r + 1) (by omega) hi.head
      have r2 := run1_ge (fr x r + 1) x
      rw [encR_cons, nR_cons, List.length_append, List.length_cons]
      refine ⟨by omega, by omega, by omega, fun hs => ?_⟩
      have r3 := run1_le12 (k := fr x r + 1) (by omega) hi.head
      have := h4 (by omega)
      omega
theorem encR_len {l : List Int} (h : I64 l) : (encR l).length ≤ 11 * l.length := (enc_sizes _ l (Nat.le_refl _) h).1

/-! the number of runs, counted at their beginnings -/
def nD (p : Option Int) : List Int → Nat
  | [] => 0
  | x :: r => (if p = some x then 0 else 1) + nD (some x) r
theorem nD_run (x : Int) : ∀ r, nD (some x) r = nD (some x) (r.drop (fr x r))
  | [] => rfl
  | y :: r => by
    by_cases h : y = x
    · subst h
      rw [nD, if_pos rfl, Nat.zero_add, fr, if_pos rfl, List.drop_succ_cons]; exact nD_run y r
    · rw [fr, if_neg h]; rfl
theorem nD_none {p : Option Int} {l : List Int} (h : p = none ∨ l.head? ≠ p) : nD p l = nR l := by
  induction hn : l.length using Nat.strongRecOn generalizing p l with
  | _ n ih =>
    cases l with
    | nil => rw [nD, nR_nil]
    | cons x r =>
      rw [nD, nR_cons, nD_run]
      have hl := fr_le x r
      have hk : ¬ p = some x := by
        intro e
        subst e
        rcases h with h | h
        · cases h
        · exact h rfl
      rw [if_neg hk, ih (r.drop (fr x r)).length (by rw [List.length_drop]; simp at hn; omega) (.inr (fr_drop x r)) rfl]
      omega
/-- The element before place i. -/
def prev (l : List Int) (i : Nat) : Option Int := if i = 0 then none else l[i - 1]?
theorem nD_at {l : List Int} {i : Nat} {x : Int} (h : l[i]? = some x) : nD (prev l i) (l.drop i) = (if prev l i = some x then 0 else 1) + nD (prev l (i + 1)) (l.drop (i + 1)) := by
  obtain ⟨hj, he⟩ := List.getElem?_eq_some_iff.1 h
  have e : prev l (i + 1) = some x := by unfold prev; rw [if_neg (by omega), Nat.add_sub_cancel, h]
  rw [e, List.drop_eq_getElem_cons hj, nD, he]
theorem nD_all (l : List Int) : nD (prev l 0) (l.drop 0) = nR l := nD_none (.inl rfl)

/-! a run more at the end -/
theorem getLast?_drop {l : List Int} {n : Nat} (h : n < l.length) : (l.drop n).getLast? = l.getLast? := by
  rw [List.getLast?_drop, if_neg (by omega)]
theorem encR_snoc : ∀ (n : Nat) (l : List Int) (k : Nat) (v : Int), l.length ≤ n → 1 ≤ k → l.getLast? ≠ some v → encR (l ++ List.replicate k v) = encR l ++ run1 k v := by
  intro n
  induction n with
  | zero =>
    intro l k v hl hk _
    have : l = [] := List.eq_nil_of_length_eq_zero (by omega)
    subst this
    obtain ⟨j, rfl⟩ : ∃ j, k = j + 1 := ⟨k - 1, by omega⟩
    rw [List.nil_append, encR_nil, List.nil_append, List.replicate_succ, encR_cons, fr_rep, List.drop_eq_nil_of_le (by simp), encR_nil, List.append_nil]
  | succ n ih =>
    intro l k v hl hk hlast
    cases l with
    | nil => exact ih [] k v (by simp) hk hlast
    | cons x r =>
      simp only [List.length_cons] at hl
      have hf := fr_le x r
      rw [List.cons_append, encR_cons, encR_cons]
      by_cases hlt : fr x r < r.length
      · have hd : (r.drop (fr x r)).length = r.length - fr x r := List.length_drop
        have e2 : (r.drop (fr x r)).getLast? = (x :: r).getLast? := by
          rw [getLast?_drop hlt, List.getLast?_cons]
          cases r with
          | nil => simp at hlt
          | cons y t => rw [List.getLast?_cons]; rfl
        rw [fr_app_lt _ hlt, List.drop_append_of_le_length (Nat.le_of_lt hlt), ih (r.drop (fr x r)) k v (by omega) hk (by rw [e2]; exact hlast), List.append_assoc]
      · have he : fr x r = r.length := by omega
        have hr := fr_take x r
        rw [he, List.take_length] at hr
        have hv : x ≠ v := by
          intro e
          apply hlast
          rw [hr, ← List.replicate_succ, e, List.getLast?_replicate, if_neg (by omega)]
        have h0 : fr x (List.replicate k v) = 0 := fr_zero (by
          obtain ⟨j, rfl⟩ : ∃ j, k = j + 1 := ⟨k - 1, by omega⟩
          rw [List.replicate_succ]; simpa using fun e => hv e.symm)
        have h1 := ih [] k v (by simp) hk (by simp)
        rw [List.nil_append, encR_nil, List.nil_append] at h1
        rw [fr_app_eq _ he, h0, he]
        simp only [Nat.add_zero]
        rw [List.drop_left, List.drop_length, encR_nil, List.append_nil, h1]

/-! reading -/
theorem getR_zero {s : ByteArray} {i : Int} {a : Nat} {b : Int} (h : getR s i = (a, b, 0)) : ∃ k m : Nat, i = k ∧ b = (k : Int) + m ∧ 1 ≤ m ∧ k + m ≤ s.size ∧ putL a = (s.data.toList.drop k).take m ∧ a < 18446744073709551616 := by
  by_cases hr : i < 0 ∨ (s.size : Int) < i
  · rw [getR_out hr] at h; cases h
  · obtain ⟨k, rfl⟩ : ∃ k : Nat, i = k := ⟨i.toNat, by omega⟩
    have hk : k ≤ s.size := by omega
    obtain ⟨⟨x, y, c⟩, hg⟩ : ∃ r, getL (s.data.toList.drop k) = r := ⟨_, rfl⟩
    have h2 := getR_in hk hg
    rw [h2] at h
    by_cases hc : c = 0
    · subst hc
      simp only [if_true] at h
      cases h
      have := getL_ok (l := s.data.toList.drop k) (by rw [hg])
      rw [hg, List.length_drop, size_list] at this
      obtain ⟨h3, h4, h5, h6⟩ := this
      simp only at h3 h4 h5 h6
      exact ⟨k, y, rfl, rfl, h3, by omega, h5, h6⟩
    · simp only [if_neg hc] at h
      cases h; exact absurd rfl hc
theorem getR_put {s : ByteArray} {a r : List UInt8} {n : Nat} (hn : n < 18446744073709551616) (hs : s.data.toList = a ++ putL n ++ r) : getR s ((a.length : Nat) : Int) = (n, (((a ++ putL n).length : Nat) : Int), 0) := by
  have hsz : s.size = a.length + (putL n).length + r.length := by
    rw [← size_list, hs, List.length_append, List.length_append]
  have hd : s.data.toList.drop a.length = putL n ++ r := by rw [hs, List.append_assoc, List.drop_left]
  have hg : getL (s.data.toList.drop a.length) = (n, (putL n).length, 0) := by rw [hd]; exact getL_put hn r
  rw [getR_in (by omega) hg, List.length_append]
  simp

/-- What Decode finds from place p on, with the elements l read. -/
def dec (s : ByteArray) (n : Nat) (p : Int) (l : List Int) : List Int × Nat :=
  if l.length < n then
    if (getR s p).2.2 ≠ 0 then ([], (getR s p).2.2)
    else if _h : (getR s p).1 = 0 ∨ n - l.length < (getR s p).1 then ([], 2)
    else if (getR s (getR s p).2.1).2.2 ≠ 0 then ([], (getR s (getR s p).2.1).2.2)
    else if l.getLast? = some (zagN (getR s (getR s p).2.1).1) then ([], 2)
    else dec s n (getR s (getR s p).2.1).2.1 (l ++ List.replicate (getR s p).1 (zagN (getR s (getR s p).2.1).1))
  else if p < s.size then ([], 2) else (l, 0)
termination_by n - l.length
decreasing_by
  rw [List.length_append, List.length_replicate]
  omega
section
variable {s : ByteArray} {n : Nat} {p : Int} {l : List Int}
theorem dec_e1 {a : Nat} {b : Int} {c : Nat} (h : l.length < n) (hg : getR s p = (a, b, c)) (hc : c ≠ 0) : dec s n p l = ([], c) := by
  rw [dec, if_pos h, hg, if_pos hc]
theorem dec_k {a : Nat} {b : Int} (h : l.length < n) (hg : getR s p = (a, b, 0)) (hk : a = 0 ∨ n - l.length < a) : dec s n p l = ([], 2) := by
  rw [dec, if_pos h, hg, if_neg (by simp), dif_pos hk]
theorem dec_e2 {a : Nat} {b : Int} {z : Nat} {b' : Int} {c : Nat} (h : l.length < n) (hg : getR s p = (a, b, 0)) (hk : 1 ≤ a ∧ a ≤ n - l.length) (hg2 : getR s b = (z, b', c)) (hc : c ≠ 0) : dec s n p l = ([], c) := by
  rw [dec, if_pos h, hg, if_neg (by simp), dif_neg (by simp only; omega), hg2, if_pos hc]
theorem dec_v {a : Nat} {b : Int} {z : Nat} {b' : Int} (h : l.length < n) (hg : getR s p = (a, b, 0)) (hk : 1 ≤ a ∧ a ≤ n - l.length) (hg2 : getR s b = (z, b', 0)) (hv : l.getLast? = some (zagN z)) : dec s n p l = ([], 2) := by
  rw [dec, if_pos h, hg, if_neg (by simp), dif_neg (by simp only; omega), hg2, if_neg (by simp), if_pos hv]
theorem dec_go {a : Nat} {b : Int} {z : Nat} {b' : Int} (h : l.length < n) (hg : getR s p = (a, b, 0)) (hk : 1 ≤ a ∧ a ≤ n - l.length) (hg2 : getR s b = (z, b', 0)) (hv : l.getLast? ≠ some (zagN z)) : dec s n p l = dec s n b' (l ++ List.replicate a (zagN z)) := by
  rw [dec, if_pos h, hg, if_neg (by simp), dif_neg (by simp only; omega), hg2, if_neg (by simp), if_neg hv]
theorem dec_left (h : ¬ l.length < n) (hp : p < s.size) : dec s n p l = ([], 2) := by rw [dec, if_neg h, if_pos hp]
theorem dec_done (h : ¬ l.length < n) (hp : ¬ p < s.size) : dec s n p l = (l, 0) := by rw [dec, if_neg h, if_neg hp]
end
/-- What Decode finds. -/
def decR (s : ByteArray) (n : Int) : List Int × Nat := if n < 0 ∨ 4096 < n then ([], 4) else dec s n.toNat 0 []
theorem decR_out {s : ByteArray} {n : Int} (h : n < 0 ∨ 4096 < n) : decR s n = ([], 4) := by unfold decR; rw [if_pos h]
theorem decR_in {s : ByteArray} {n : Nat} (h : n ≤ 4096) : decR s n = dec s n 0 [] := by unfold decR; rw [if_neg (by omega), Int.toNat_natCast]

/-- What was encoded is read again. -/
theorem dec_enc (s : ByteArray) (n : Nat) : ∀ (m : Nat) (rest l : List Int) (pre : List UInt8), rest.length ≤ m → I64 rest → n = l.length + rest.length → n < 18446744073709551616 → s.data.toList = pre ++ encR rest →
    (rest = [] ∨ rest.head? ≠ l.getLast?) → dec s n (pre.length : Nat) l = (l ++ rest, 0) := by
  intro m
  induction m with
  | zero =>
    intro rest l pre hm _ hn _ hs _
    have : rest = [] := List.eq_nil_of_length_eq_zero (by omega)
    subst this
    rw [encR_nil, List.append_nil] at hs
    rw [dec_done (by simp at hn; omega) (by rw [← size_list, hs]; omega), List.append_nil]
  | succ m ih =>
    intro rest l pre hm hi hn hn2 hs hne
    cases rest with
    | nil => exact ih [] l pre (by simp) hi hn hn2 hs (.inl rfl)
    | cons x r =>
      simp only [List.length_cons] at hm hn
      have hf := fr_le x r
      have hl := hne.resolve_left (by simp)
      rw [encR_cons, run1] at hs
      have hz := zig_bd hi.head.1 hi.head.2
      have g1 : getR s ((pre.length : Nat) : Int) = (fr x r + 1, (((pre ++ putL (fr x r + 1)).length : Nat) : Int), 0) := getR_put (r := putL (zigN x).toNat ++ encR (r.drop (fr x r))) (by omega) (by rw [hs]; simp only [List.append_assoc])
      have g2 : getR s (((pre ++ putL (fr x r + 1)).length : Nat) : Int) = ((zigN x).toNat, (((pre ++ putL (fr x r + 1) ++ putL (zigN x).toNat).length : Nat) : Int), 0) := getR_put (r := encR (r.drop (fr x r))) (zig_lt hi.head) (by rw [hs]; simp only [List.append_assoc])
      have ez : zagN ((zigN x).toNat : Int) = x := by rw [Int.toNat_of_nonneg hz.1, zag_zig]
      rw [dec_go (by omega) g1 (by omega) g2 (by rw [ez]; exact fun e => hl (by rw [e]; rfl)), ez]
      have hd : (r.drop (fr x r)).length = r.length - fr x r := List.length_drop
      rw [ih (r.drop (fr x r)) _ _ (by omega) (hi.tail.drop _) (by rw [List.length_append, List.length_replicate]; omega) hn2 (by rw [hs]; simp only [List.append_assoc]) (.inr ?_)]
      · congr 1
        rw [List.append_assoc]
        congr 1
        rw [List.replicate_succ, List.cons_append, ← fr_take x r, List.take_append_drop]
      · rw [List.getLast?_append, List.getLast?_replicate, if_neg (by omega)]
        exact fr_drop x r
theorem decR_enc {l : List Int} (h : l.length ≤ 4096) (hi : I64 l) : decR (str (encR l)) (l.length : Nat) = (l, 0) := by
  rw [decR_in h]
  exact dec_enc (str (encR l)) l.length l.length l [] [] (Nat.le_refl _) hi (by simp) (by omega) rfl (by cases l <;> simp)

/-- What is read is the encoding of what was found. -/
theorem dec_only (s : ByteArray) (n : Nat) : ∀ (m : Nat) (l : List Int) (p : Int) (r : List Int), n - l.length ≤ m → l.length ≤ n → dec s n p l = (r, 0) → (p = (encR l).length ∧ (encR l).length ≤ s.size ∧ encR l = s.data.toList.take (encR l).length) → I64 l →
    encR r = s.data.toList ∧ r.length = n ∧ I64 r := by
  intro m
  induction m with
  | zero =>
    intro l p r hm hl h ⟨hp, hps, ht⟩ hi
    have hn : ¬ l.length < n := by omega
    by_cases hq : p < s.size
    · rw [dec_left hn hq] at h; cases h
    · rw [dec_done hn hq] at h
      cases h
      refine ⟨?_, by omega, hi⟩
      rw [ht, List.take_of_length_le]
      rw [size_list]; omega
  | succ m ih =>
    intro l p r hm hl h ⟨hp, hps, ht⟩ hi
    by_cases hn : l.length < n
    · obtain ⟨a, b, c, hg⟩ : ∃ a b c, getR s p = (a, b, c) := ⟨_, _, _, rfl⟩
      by_cases hc : c = 0
      · subst hc
        by_cases hk : 1 ≤ a ∧ a ≤ n - l.length
        · obtain ⟨z, b', c', hg2⟩ : ∃ a' b' c', getR s b = (a', b', c') := ⟨_, _, _, rfl⟩
          by_cases hc2 : c' = 0
          · subst hc2
            by_cases hv : l.getLast? = some (zagN z)
            · rw [dec_v hn hg hk hg2 hv] at h; cases h
            · rw [dec_go hn hg hk hg2 hv] at h
              obtain ⟨k1, m1, e1, e2, h1, h2, h3, h4⟩ := getR_zero hg
              obtain ⟨k2, m2, e3, e4, h5, h6, h7, h8⟩ := getR_zero hg2
              have hzz : (zigN (zagN (z : Int))).toNat = z := by rw [zig_zag (by omega)]; omega
              have hek : (encR l).length = k1 := by omega
              have hk2 : k2 = k1 + m1 := by omega
              subst hk2
              have hlen : ∀ (k m : Nat), k + m ≤ s.size → ((s.data.toList.drop k).take m).length = m := fun k m h => by rw [List.length_take, List.length_drop, size_list]; omega
              have hsn : encR (l ++ List.replicate a (zagN z)) = s.data.toList.take (k1 + m1 + m2) := by
                rw [encR_snoc _ l a _ (Nat.le_refl _) hk.1 hv, run1, hzz, h3, h7, ht, hek, List.take_add, List.take_add, List.append_assoc]
              have hsl : (encR (l ++ List.replicate a (zagN z))).length = k1 + m1 + m2 := by rw [hsn, List.length_take, size_list]; omega
              refine ih _ b' r (by rw [List.length_append, List.length_replicate]; omega) (by rw [List.length_append, List.length_replicate]; omega) h ⟨by rw [hsl]; omega, by omega, by rw [hsl]; exact hsn⟩ ?_
              intro y hy
              rcases List.mem_append.1 hy with hy | hy
              · exact hi y hy
              · rw [List.eq_of_mem_replicate hy]; exact zag_bd (by omega) (by omega)
          · rw [dec_e2 hn hg hk hg2 hc2] at h; cases h; exact absurd rfl hc2
        · rw [dec_k hn hg (by omega)] at h; cases h
      · rw [dec_e1 hn hg hc] at h; cases h; exact absurd rfl hc
    · exact ih l p r (by omega) hl h ⟨hp, hps, ht⟩ hi
theorem decR_only {s : ByteArray} {n : Nat} (h : n ≤ 4096) {r : List Int} (hd : decR s (n : Nat) = (r, 0)) : encR r = s.data.toList ∧ r.length = n ∧ I64 r := by
  rw [decR_in h] at hd
  exact dec_only s n n [] 0 r (by simp) (Nat.zero_le _) hd ⟨by rw [encR_nil]; rfl, by rw [encR_nil]; exact Nat.zero_le _, by rw [encR_nil]; rfl⟩ (fun _ hz => by simp at hz)
end Go.RL
