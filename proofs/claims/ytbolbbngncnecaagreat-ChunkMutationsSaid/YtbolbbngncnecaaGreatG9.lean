/- Several texts in one: Rle RleM RleW1 RleW2 RleW3 RleW4 RleW5 RleW6 RleW7. -/
import Derived.Test.YtbolbbngncnecaaGreatG1
import Derived.Test.YtbolbbngncnecaaGreatG0
import Derived.Lib.AppendStr
import Derived.StillTailTactics
import Derived.Deep.RegionWith
/- Runs: lists of whole numbers, the runs of a list, its encoding, and what Decode finds in a text. -/
namespace Go.RL
open Go.RowKit Go.VB Go.VarM Go.Proofs.YtbolbbngncnecaaGreat

/-- The number of elements at the beginning that equal v. -/
def fr (v : Int) : List Int → Nat
  | [] => 0
  | x :: r => if x = v then fr v r + 1 else 0
theorem fr_le (v : Int) : ∀ l, fr v l ≤ l.length
  | [] => Nat.le_refl _
  | x :: r => by
    have := fr_le v r
    unfold fr; split <;> simp <;> omega
theorem fr_drop (v : Int) : ∀ l : List Int, (l.drop (fr v l)).head? ≠ some v
  | [] => by simp [fr]
  | x :: r => by
    unfold fr
    by_cases h : x = v
    · rw [if_pos h, List.drop_succ_cons]; exact fr_drop v r
    · rw [if_neg h]; simpa using h
theorem fr_take (v : Int) : ∀ l, l.take (fr v l) = List.replicate (fr v l) v
  | [] => rfl
  | x :: r => by
    unfold fr
    by_cases h : x = v
    · rw [if_pos h, List.take_succ_cons, fr_take v r, List.replicate_succ, h]
    · rw [if_neg h]; rfl
theorem fr_rep (v : Int) : ∀ k, fr v (List.replicate k v) = k
  | 0 => rfl
  | k + 1 => by rw [List.replicate_succ, fr, if_pos rfl, fr_rep v k]
theorem fr_zero {v : Int} {l : List Int} (h : l.head? ≠ some v) : fr v l = 0 := by
  cases l with
  | nil => rfl
  | cons x r => rw [fr, if_neg (fun e => h (by simp [e]))]
theorem fr_app_lt {v : Int} : ∀ {l : List Int} (m : List Int), fr v l < l.length → fr v (l ++ m) = fr v l
  | [], _, h => by simp [fr] at h
  | x :: r, m, h => by
    unfold fr at h ⊢
    by_cases hx : x = v
    · rw [if_pos hx] at h
      simp only [List.length_cons] at h
      rw [List.cons_append]
      simp only [hx, if_true]
      rw [fr_app_lt m (by omega)]
    · simp only [List.cons_append, if_neg hx]
theorem fr_app_eq {v : Int} : ∀ {l : List Int} (m : List Int), fr v l = l.length → fr v (l ++ m) = l.length + fr v m
  | [], _, _ => by simp
  | x :: r, m, h => by
    unfold fr at h
    by_cases hx : x = v
    · rw [if_pos hx, List.length_cons] at h
      rw [List.cons_append, fr, if_pos hx, fr_app_eq m (by omega), List.length_cons]; omega
    · rw [if_neg hx, List.length_cons] at h; omega
/-- One more equal element, one less that is left. -/
theorem fr_step {v : Int} {l : List Int} {j : Nat} (h : l[j]? = some v) : fr v (l.drop j) = fr v (l.drop (j + 1)) + 1 := by
  obtain ⟨hj, he⟩ := List.getElem?_eq_some_iff.1 h
  rw [List.drop_eq_getElem_cons hj, fr, if_pos he]
theorem fr_stop {v x : Int} {l : List Int} {j : Nat} (h : l[j]? = some x) (hx : x ≠ v) : fr v (l.drop j) = 0 := by
  obtain ⟨hj, he⟩ := List.getElem?_eq_some_iff.1 h
  rw [List.drop_eq_getElem_cons hj, fr, if_neg (by rw [he]; exact hx)]
theorem fr_end {v : Int} {l : List Int} {j : Nat} (h : l.length ≤ j) : fr v (l.drop j) = 0 := by
  rw [List.drop_eq_nil_of_le h]; rfl

/-- The bytes of one run. -/
def run1 (k : Nat) (v : Int) : List UInt8 := putL k ++ putL (zigN v).toNat
/-- The encoding of a list. -/
def encR : List Int → List UInt8
  | [] => []
  | x :: r => run1 (fr x r + 1) x ++ encR (r.drop (fr x r))
termination_by l => l.length
decreasing_by simp; omega
/-- The number of runs. -/
def nR : List Int → Nat
  | [] => 0
  | x :: r => nR (r.drop (fr x r)) + 1
termination_by l => l.length
decreasing_by simp; omega
theorem encR_nil : encR [] = [] := by rw [encR]
theorem encR_cons (x : Int) (r : List Int) : encR (x :: r) = run1 (fr x r + 1) x ++ encR (r.drop (fr x r)) := by rw [encR]
theorem nR_nil : nR [] = 0 := by rw [nR]
theorem nR_cons (x : Int) (r : List Int) : nR (x :: r) = nR (r.drop (fr x r)) + 1 := by rw [nR]
/-- At a place of a list. -/
theorem drop_run {l : List Int} {i : Nat} {x : Int} (h : l[i]? = some x) : fr x (l.drop i) = fr x (l.drop (i + 1)) + 1 ∧ l.drop (i + fr x (l.drop i)) = (l.drop (i + 1)).drop (fr x (l.drop (i + 1))) := by
  have e := fr_step h
  refine ⟨e, ?_⟩
  rw [e, List.drop_drop]; congr 1; omega
theorem encR_at {l : List Int} {i : Nat} {x : Int} (h : l[i]? = some x) : encR (l.drop i) = run1 (fr x (l.drop i)) x ++ encR (l.drop (i + fr x (l.drop i))) := by
  obtain ⟨e1, e2⟩ := drop_run h
  obtain ⟨hj, he⟩ := List.getElem?_eq_some_iff.1 h
  rw [e2, e1, List.drop_eq_getElem_cons hj, encR_cons, he]
theorem nR_at {l : List Int} {i : Nat} {x : Int} (h : l[i]? = some x) : nR (l.drop i) = nR (l.drop (i + fr x (l.drop i))) + 1 := by
  obtain ⟨e1, e2⟩ := drop_run h
  obtain ⟨hj, he⟩ := List.getElem?_eq_some_iff.1 h
  rw [e2, List.drop_eq_getElem_cons hj, nR_cons, he]
theorem fr_at {l : List Int} {i : Nat} {x : Int} (h : l[i]? = some x) : 1 ≤ fr x (l.drop i) ∧ i + fr x (l.drop i) ≤ l.length := by
  obtain ⟨hj, _⟩ := List.getElem?_eq_some_iff.1 h
  have h1 := fr_step h
  have h2 := fr_le x (l.drop i)
  rw [List.length_drop] at h2
  omega

/-! sizes -/
def I64 (l : List Int) : Prop := ∀ z ∈ l, -9223372036854775808 ≤ z ∧ z ≤ 9223372036854775807
theorem I64.of {l : List Int} (h : ∀ z ∈ l, (Lit.int .i64 z).wf = true) : I64 l := fun z hz => bounds_i64 (h z hz)
theorem I64.drop {l : List Int} (h : I64 l) (n : Nat) : I64 (l.drop n) := fun z hz => h z (List.mem_of_mem_drop hz)
theorem I64.at {l : List Int} (h : I64 l) {i : Nat} {x : Int} (hx : l[i]? = some x) : -9223372036854775808 ≤ x ∧ x ≤ 9223372036854775807 := h x (List.mem_of_getElem? hx)
theorem I64.tail {x : Int} {l : List Int} (h : I64 (x :: l)) : I64 l := fun z hz => h z (List.mem_cons_of_mem _ hz)
theorem I64.head {x : Int} {l : List Int} (h : I64 (x :: l)) : -9223372036854775808 ≤ x ∧ x ≤ 9223372036854775807 := h x (List.mem_cons_self ..)
theorem zig_lt {v : Int} (h : -9223372036854775808 ≤ v ∧ v ≤ 9223372036854775807) : (zigN v).toNat < 18446744073709551616 := by
  have := zig_bd h.1 h.2; omega
theorem putL_self : ∀ k, 1 ≤ k → (putL k).length ≤ k := by
  intro k
  induction k using Nat.strongRecOn with
  | _ k ih =>
    intro hk
    by_cases h : k < 128
    · rw [putL_lt h]; simpa using hk
    · rw [putL_ge h, List.length_cons]
      have := ih (k / 128) (by omega) (by omega)
      omega
theorem run1_le {k : Nat} {v : Int} (hk : 1 ≤ k) (h : -9223372036854775808 ≤ v ∧ v ≤ 9223372036854775807) : (run1 k v).length ≤ k + 10 := by
  have h1 := putL_self k hk
  have h2 := putL_len10 (zig_lt h)
  unfold run1; rw [List.length_append]; omega
theorem run1_ge (k : Nat) (v : Int) : 2 ≤ (run1 k v).length := by
  have h1 := putL_pos k
  have h2 := putL_pos (zigN v).toNat
  unfold run1; rw [List.length_append]; omega
theorem run1_le12 {k : Nat} {v : Int} (hk : k < 16384) (h : -9223372036854775808 ≤ v ∧ v ≤ 9223372036854775807) : (run1 k v).length ≤ 12 := by
  have h1 := putL_len (n := k) 2 (by omega) (by decide)
  have h2 := putL_len10 (zig_lt h)
  unfold run1; rw [List.length_append]; omega
theorem enc_sizes : ∀ (n : Nat) (l : List Int), l.length ≤ n → I64 l → (encR l).length ≤ 11 * l.length ∧ 2 * nR l ≤ (encR l).length ∧ nR l ≤ l.length ∧ (l.length < 16384 → (encR l).length ≤ 12 * nR l) := by
  intro n
  induction n with
  | zero =>
    intro l hl _
    have : l = [] := List.eq_nil_of_length_eq_zero (by omega)
    subst this
    rw [encR_nil, nR_nil]; simp
  | succ n ih =>
    intro l hl hi
    cases l with
    | nil => rw [encR_nil, nR_nil]; simp
    | cons x r =>
      have hf := fr_le x r
      have hd : (r.drop (fr x r)).length = r.length - fr x r := List.length_drop
      simp only [List.length_cons] at hl
      obtain ⟨h1, h2, h3, h4⟩ := ih (r.drop (fr x r)) (by omega) (hi.tail.drop _)
      have r1 := run1_le (k := fr x r + 1) (by omega) hi.head
      have r2 := run1_ge (fr x r + 1) x
      rw [encR_cons, nR_cons, List.length_append, List.length_cons]
      refine ⟨by omega, by omega, by omega, fun hs => ?_⟩
      have r3 := run1_le12 (k := fr x r + 1) (by omega) hi.head
      have := h4 (by omega)
      omega
theorem encR_len {l : List Int} (h : I64 l) : (encR l).length ≤ 11 * l.length := (enc_sizes _ l (Nat.le_refl _) h).1

/-! the number of runs, counted at their beginnings -/
def nD (p : Option Int) : List Int → Nat
  | [] => 0
  | x :: r => (if p = some x then 0 else 1) + nD (some x) r
theorem nD_run (x : Int) : ∀ r, nD (some x) r = nD (some x) (r.drop (fr x r))
  | [] => rfl
  | y :: r => by
    by_cases h : y = x
    · subst h
      rw [nD, if_pos rfl, Nat.zero_add, fr, if_pos rfl, List.drop_succ_cons]; exact nD_run y r
    · rw [fr, if_neg h]; rfl
theorem nD_none {p : Option Int} {l : List Int} (h : p = none ∨ l.head? ≠ p) : nD p l = nR l := by
  induction hn : l.length using Nat.strongRecOn generalizing p l with
  | _ n ih =>
    cases l with
    | nil => rw [nD, nR_nil]
    | cons x r =>
      rw [nD, nR_cons, nD_run]
      have hl := fr_le x r
      have hk : ¬ p = some x := by
        intro e
        subst e
        rcases h with h | h
        · cases h
        · exact h rfl
      rw [if_neg hk, ih (r.drop (fr x r)).length (by rw [List.length_drop]; simp at hn; omega) (.inr (fr_drop x r)) rfl]
      omega
/-- The element before place i. -/
def prev (l : List Int) (i : Nat) : Option Int := if i = 0 then none else l[i - 1]?
theorem nD_at {l : List Int} {i : Nat} {x : Int} (h : l[i]? = some x) : nD (prev l i) (l.drop i) = (if prev l i = some x then 0 else 1) + nD (prev l (i + 1)) (l.drop (i + 1)) := by
  obtain ⟨hj, he⟩ := List.getElem?_eq_some_iff.1 h
  have e : prev l (i + 1) = some x := by unfold prev; rw [if_neg (by omega), Nat.add_sub_cancel, h]
  rw [e, List.drop_eq_getElem_cons hj, nD, he]
theorem nD_all (l : List Int) : nD (prev l 0) (l.drop 0) = nR l := nD_none (.inl rfl)

/-! a run more at the end -/
theorem getLast?_drop {l : List Int} {n : Nat} (h : n < l.length) : (l.drop n).getLast? = l.getLast? := by
  rw [List.getLast?_drop, if_neg (by omega)]
theorem encR_snoc : ∀ (n : Nat) (l : List Int) (k : Nat) (v : Int), l.length ≤ n → 1 ≤ k → l.getLast? ≠ some v → encR (l ++ List.replicate k v) = encR l ++ run1 k v := by
  intro n
  induction n with
  | zero =>
    intro l k v hl hk _
    have : l = [] := List.eq_nil_of_length_eq_zero (by omega)
    subst this
    obtain ⟨j, rfl⟩ : ∃ j, k = j + 1 := ⟨k - 1, by omega⟩
    rw [List.nil_append, encR_nil, List.nil_append, List.replicate_succ, encR_cons, fr_rep, List.drop_eq_nil_of_le (by simp), encR_nil, List.append_nil]
  | succ n ih =>
    intro l k v hl hk hlast
    cases l with
    | nil => exact ih [] k v (by simp) hk hlast
    | cons x r =>
      simp only [List.length_cons] at hl
      have hf := fr_le x r
      rw [List.cons_append, encR_cons, encR_cons]
      by_cases hlt : fr x r < r.length
      · have hd : (r.drop (fr x r)).length = r.length - fr x r := List.length_drop
        have e2 : (r.drop (fr x r)).getLast? = (x :: r).getLast? := by
          rw [getLast?_drop hlt, List.getLast?_cons]
          cases r with
          | nil => simp at hlt
          | cons y t => rw [List.getLast?_cons]; rfl
        rw [fr_app_lt _ hlt, List.drop_append_of_le_length (Nat.le_of_lt hlt), ih (r.drop (fr x r)) k v (by omega) hk (by rw [e2]; exact hlast), List.append_assoc]
      · have he : fr x r = r.length := by omega
        have hr := fr_take x r
        rw [he, List.take_length] at hr
        have hv : x ≠ v := by
          intro e
          apply hlast
          rw [hr, ← List.replicate_succ, e, List.getLast?_replicate, if_neg (by omega)]
        have h0 : fr x (List.replicate k v) = 0 := fr_zero (by
          obtain ⟨j, rfl⟩ : ∃ j, k = j + 1 := ⟨k - 1, by omega⟩
          rw [List.replicate_succ]; simpa using fun e => hv e.symm)
        have h1 := ih [] k v (by simp) hk (by simp)
        rw [List.nil_append, encR_nil, List.nil_append] at h1
        rw [fr_app_eq _ he, h0, he]
        simp only [Nat.add_zero]
        rw [List.drop_left, List.drop_length, encR_nil, List.append_nil, h1]

/-! reading -/
theorem getR_zero {s : ByteArray} {i : Int} {a : Nat} {b : Int} (h : getR s i = (a, b, 0)) : ∃ k m : Nat, i = k ∧ b = (k : Int) + m ∧ 1 ≤ m ∧ k + m ≤ s.size ∧ putL a = (s.data.toList.drop k).take m ∧ a < 18446744073709551616 := by
  by_cases hr : i < 0 ∨ (s.size : Int) < i
  · rw [getR_out hr] at h; cases h
  · obtain ⟨k, rfl⟩ : ∃ k : Nat, i = k := ⟨i.toNat, by omega⟩
    have hk : k ≤ s.size := by omega
    obtain ⟨⟨x, y, c⟩, hg⟩ : ∃ r, getL (s.data.toList.drop k) = r := ⟨_, rfl⟩
    have h2 := getR_in hk hg
    rw [h2] at h
    by_cases hc : c = 0
    · subst hc
      simp only [if_true] at h
      cases h
      have := getL_ok (l := s.data.toList.drop k) (by rw [hg])
      rw [hg, List.length_drop, size_list] at this
      obtain ⟨h3, h4, h5, h6⟩ := this
      simp only at h3 h4 h5 h6
      exact ⟨k, y, rfl, rfl, h3, by omega, h5, h6⟩
    · simp only [if_neg hc] at h
      cases h; exact absurd rfl hc
theorem getR_put {s : ByteArray} {a r : List UInt8} {n : Nat} (hn : n < 18446744073709551616) (hs : s.data.toList = a ++ putL n ++ r) : getR s ((a.length : Nat) : Int) = (n, (((a ++ putL n).length : Nat) : Int), 0) := by
  have hsz : s.size = a.length + (putL n).length + r.length := by
    rw [← size_list, hs, List.length_append, List.length_append]
  have hd : s.data.toList.drop a.length = putL n ++ r := by rw [hs, List.append_assoc, List.drop_left]
  have hg : getL (s.data.toList.drop a.length) = (n, (putL n).length, 0) := by rw [hd]; exact getL_put hn r
  rw [getR_in (by omega) hg, List.length_append]
  simp

/-- What Decode finds from place p on, with the elements l read. -/
def dec (s : ByteArray) (n : Nat) (p : Int) (l : List Int) : List Int × Nat :=
  if l.length < n then
    if (getR s p).2.2 ≠ 0 then ([], (getR s p).2.2)
    else if _h : (getR s p).1 = 0 ∨ n - l.length < (getR s p).1 then ([], 2)
    else if (getR s (getR s p).2.1).2.2 ≠ 0 then ([], (getR s (getR s p).2.1).2.2)
    else if l.getLast? = some (zagN (getR s (getR s p).2.1).1) then ([], 2)
    else dec s n (getR s (getR s p).2.1).2.1 (l ++ List.replicate (getR s p).1 (zagN (getR s (getR s p).2.1).1))
  else if p < s.size then ([], 2) else (l, 0)
termination_by n - l.length
decreasing_by
  rw [List.length_append, List.length_replicate]
  omega
section
variable {s : ByteArray} {n : Nat} {p : Int} {l : List Int}
theorem dec_e1 {a : Nat} {b : Int} {c : Nat} (h : l.length < n) (hg : getR s p = (a, b, c)) (hc : c ≠ 0) : dec s n p l = ([], c) := by
  rw [dec, if_pos h, hg, if_pos hc]
theorem dec_k {a : Nat} {b : Int} (h : l.length < n) (hg : getR s p = (a, b, 0)) (hk : a = 0 ∨ n - l.length < a) : dec s n p l = ([], 2) := by
  rw [dec, if_pos h, hg, if_neg (by simp), dif_pos hk]
theorem dec_e2 {a : Nat} {b : Int} {z : Nat} {b' : Int} {c : Nat} (h : l.length < n) (hg : getR s p = (a, b, 0)) (hk : 1 ≤ a ∧ a ≤ n - l.length) (hg2 : getR s b = (z, b', c)) (hc : c ≠ 0) : dec s n p l = ([], c) := by
  rw [dec, if_pos h, hg, if_neg (by simp), dif_neg (by simp only; omega), hg2, if_pos hc]
theorem dec_v {a : Nat} {b : Int} {z : Nat} {b' : Int} (h : l.length < n) (hg : getR s p = (a, b, 0)) (hk : 1 ≤ a ∧ a ≤ n - l.length) (hg2 : getR s b = (z, b', 0)) (hv : l.getLast? = some (zagN z)) : dec s n p l = ([], 2) := by
  rw [dec, if_pos h, hg, if_neg (by simp), dif_neg (by simp only; omega), hg2, if_neg (by simp), if_pos hv]
theorem dec_go {a : Nat} {b : Int} {z : Nat} {b' : Int} (h : l.length < n) (hg : getR s p = (a, b, 0)) (hk : 1 ≤ a ∧ a ≤ n - l.length) (hg2 : getR s b = (z, b', 0)) (hv : l.getLast? ≠ some (zagN z)) : dec s n p l = dec s n b' (l ++ List.replicate a (zagN z)) := by
  rw [dec, if_pos h, hg, if_neg (by simp), dif_neg (by simp only; omega), hg2, if_neg (by simp), if_neg hv]
theorem dec_left (h : ¬ l.length < n) (hp : p < s.size) : dec s n p l = ([], 2) := by rw [dec, if_neg h, if_pos hp]
theorem dec_done (h : ¬ l.length < n) (hp : ¬ p < s.size) : dec s n p l = (l, 0) := by rw [dec, if_neg h, if_neg hp]
end
/-- What Decode finds. -/
def decR (s : ByteArray) (n : Int) : List Int × Nat := if n < 0 ∨ 4096 < n then ([], 4) else dec s n.toNat 0 []
theorem decR_out {s : ByteArray} {n : Int} (h : n < 0 ∨ 4096 < n) : decR s n = ([], 4) := by unfold decR; rw [if_pos h]
theorem decR_in {s : ByteArray} {n : Nat} (h : n ≤ 4096) : decR s n = dec s n 0 [] := by unfold decR; rw [if_neg (by omega), Int.toNat_natCast]

/-- What was encoded is read again. -/
theorem dec_enc (s : ByteArray) (n : Nat) : ∀ (m : Nat) (rest l : List Int) (pre : List UInt8), rest.length ≤ m → I64 rest → n = l.length + rest.length → n < 18446744073709551616 → s.data.toList = pre ++ encR rest →
    (rest = [] ∨ rest.head? ≠ l.getLast?) → dec s n (pre.length : Nat) l = (l ++ rest, 0) := by
  intro m
  induction m with
  | zero =>
    intro rest l pre hm _ hn _ hs _
    have : rest = [] := List.eq_nil_of_length_eq_zero (by omega)
    subst this
    rw [encR_nil, List.append_nil] at hs
    rw [dec_done (by simp at hn; omega) (by rw [← size_list, hs]; omega), List.append_nil]
  | succ m ih =>
    intro rest l pre hm hi hn hn2 hs hne
    cases rest with
    | nil => exact ih [] l pre (by simp) hi hn hn2 hs (.inl rfl)
    | cons x r =>
      simp only [List.length_cons] at hm hn
      have hf := fr_le x r
      have hl := hne.resolve_left (by simp)
      rw [encR_cons, run1] at hs
      have hz := zig_bd hi.head.1 hi.head.2
      have g1 : getR s ((pre.length : Nat) : Int) = (fr x r + 1, (((pre ++ putL (fr x r + 1)).length : Nat) : Int), 0) := getR_put (r := putL (zigN x).toNat ++ encR (r.drop (fr x r))) (by omega) (by rw [hs]; simp only [List.append_assoc])
      have g2 : getR s (((pre ++ putL (fr x r + 1)).length : Nat) : Int) = ((zigN x).toNat, (((pre ++ putL (fr x r + 1) ++ putL (zigN x).toNat).length : Nat) : Int), 0) := getR_put (r := encR (r.drop (fr x r))) (zig_lt hi.head) (by rw [hs]; simp only [List.append_assoc])
      have ez : zagN ((zigN x).toNat : Int) = x := by rw [Int.toNat_of_nonneg hz.1, zag_zig]
      rw [dec_go (by omega) g1 (by omega) g2 (by rw [ez]; exact fun e => hl (by rw [e]; rfl)), ez]
      have hd : (r.drop (fr x r)).length = r.length - fr x r := List.length_drop
      rw [ih (r.drop (fr x r)) _ _ (by omega) (hi.tail.drop _) (by rw [List.length_append, List.length_replicate]; omega) hn2 (by rw [hs]; simp only [List.append_assoc]) (.inr ?_)]
      · congr 1
        rw [List.append_assoc]
        congr 1
        rw [List.replicate_succ, List.cons_append, ← fr_take x r, List.take_append_drop]
      · rw [List.getLast?_append, List.getLast?_replicate, if_neg (by omega)]
        exact fr_drop x r
theorem decR_enc {l : List Int} (h : l.length ≤ 4096) (hi : I64 l) : decR (str (encR l)) (l.length : Nat) = (l, 0) := by
  rw [decR_in h]
  exact dec_enc (str (encR l)) l.length l.length l [] [] (Nat.le_refl _) hi (by simp) (by omega) rfl (by cases l <;> simp)

/-- What is read is the encoding of what was found. -/
theorem dec_only (s : ByteArray) (n : Nat) : ∀ (m : Nat) (l : List Int) (p : Int) (r : List Int), n - l.length ≤ m → l.length ≤ n → dec s n p l = (r, 0) → (p = (encR l).length ∧ (encR l).length ≤ s.size ∧ encR l = s.data.toList.take (encR l).length) → I64 l →
    encR r = s.data.toList ∧ r.length = n ∧ I64 r := by
  intro m
  induction m with
  | zero =>
    intro l p r hm hl h ⟨hp, hps, ht⟩ hi
    have hn : ¬ l.length < n := by omega
    by_cases hq : p < s.size
    · rw [dec_left hn hq] at h; cases h
    · rw [dec_done hn hq] at h
      cases h
      refine ⟨?_, by omega, hi⟩
      rw [ht, List.take_of_length_le]
      rw [size_list]; omega
  | succ m ih =>
    intro l p r hm hl h ⟨hp, hps, ht⟩ hi
    by_cases hn : l.length < n
    · obtain ⟨a, b, c, hg⟩ : ∃ a b c, getR s p = (a, b, c) := ⟨_, _, _, rfl⟩
      by_cases hc : c = 0
      · subst hc
        by_cases hk : 1 ≤ a ∧ a ≤ n - l.length
        · obtain ⟨z, b', c', hg2⟩ : ∃ a' b' c', getR s b = (a', b', c') := ⟨_, _, _, rfl⟩
          by_cases hc2 : c' = 0
          · subst hc2
            by_cases hv : l.getLast? = some (zagN z)
            · rw [dec_v hn hg hk hg2 hv] at h; cases h
            · rw [dec_go hn hg hk hg2 hv] at h
              obtain ⟨k1, m1, e1, e2, h1, h2, h3, h4⟩ := getR_zero hg
              obtain ⟨k2, m2, e3, e4, h5, h6, h7, h8⟩ := getR_zero hg2
              have hzz : (zigN (zagN (z : Int))).toNat = z := by rw [zig_zag (by omega)]; omega
              have hek : (encR l).length = k1 := by omega
              have hk2 : k2 = k1 + m1 := by omega
              subst hk2
              have hlen : ∀ (k m : Nat), k + m ≤ s.size → ((s.data.toList.drop k).take m).length = m := fun k m h => by rw [List.length_take, List.length_drop, size_list]; omega
              have hsn : encR (l ++ List.replicate a (zagN z)) = s.data.toList.take (k1 + m1 + m2) := by
                rw [encR_snoc _ l a _ (Nat.le_refl _) hk.1 hv, run1, hzz, h3, h7, ht, hek, List.take_add, List.take_add, List.append_assoc]
              have hsl : (encR (l ++ List.replicate a (zagN z))).length = k1 + m1 + m2 := by rw [hsn, List.length_take, size_list]; omega
              refine ih _ b' r (by rw [List.length_append, List.length_replicate]; omega) (by rw [List.length_append, List.length_replicate]; omega) h ⟨by rw [hsl]; omega, by omega, by rw [hsl]; exact hsn⟩ ?_
              intro y hy
              rcases List.mem_append.1 hy with hy | hy
              · exact hi y hy
              · rw [List.eq_of_mem_replicate hy]; exact zag_bd (by omega) (by omega)
          · rw [dec_e2 hn hg hk hg2 hc2] at h; cases h; exact absurd rfl hc2
        · rw [dec_k hn hg (by omega)] at h; cases h
      · rw [dec_e1 hn hg hc] at h; cases h; exact absurd rfl hc
    · exact ih l p r (by omega) hl h ⟨hp, hps, ht⟩ hi
theorem decR_only {s : ByteArray} {n : Nat} (h : n ≤ 4096) {r : List Int} (hd : decR s (n : Nat) = (r, 0)) : encR r = s.data.toList ∧ r.length = n ∧ I64 r := by
  rw [decR_in h] at hd
  exact dec_only s n n [] 0 r (by simp) (Nat.zero_le _) hd ⟨by rw [encR_nil]; rfl, by rw [encR_nil]; exact Nat.zero_le _, by rw [encR_nil]; rfl⟩ (fun _ hz => by simp at hz)
end Go.RL

/- Rows of int64: cuts of a slice, rows with room, and texts appended to a row of bytes. -/
namespace Go.VB
open Go.RowKit
theorem RdI.toV {k : IntKind} {w : World} {B : Nat} {v : Value} {zs : List Int} (h : RdI k w B v zs) : RdV (Value.int k) w B v zs := by
  obtain ⟨A, c, hv, hc, hm, hr⟩ := h
  refine ⟨A, c, hv, hc, hm, fun i x hx => ?_⟩
  obtain ⟨hi, he⟩ := List.getElem?_eq_some_iff.1 hx
  obtain ⟨ad, h1, h2, h3⟩ := hr i hi
  refine ⟨ad, h1, h2, ?_⟩
  rw [h3, List.getD_eq_getElem?_getD, hx]; rfl
theorem RdV.toI {k : IntKind} {w : World} {B : Nat} {v : Value} {zs : List Int} (h : RdV (Value.int k) w B v zs) : RdI k w B v zs := by
  obtain ⟨A, c, hv, hc, hm, hr⟩ := h
  refine ⟨A, c, hv, hc, hm, fun i hi => ?_⟩
  obtain ⟨ad, h1, h2, h3⟩ := hr i zs[i] (List.getElem?_eq_getElem hi)
  refine ⟨ad, h1, h2, ?_⟩
  rw [h3, List.getD_eq_getElem?_getD, List.getElem?_eq_getElem hi]; rfl
theorem addr_add_add (a : Addr) (i j : Nat) : (a.add i).add j = a.add (i + j) := by
  unfold Addr.add
  by_cases hi : i = 0
  · subst hi; simp
  · by_cases hj : j = 0
    · subst hj; simp [hi]
    · simp [hi, hj, Nat.add_assoc]
theorem addr_zero (a : Addr) : a.add 0 = a := by unfold Addr.add; simp
/-- l[i:]. -/
theorem RdV.tail {α : Type} {f : α → Value} {w : World} {B c : Nat} {ad : Addr} {l : List α} (h : RdV f w B (.slice (some ad) l.length c) l) (i : Nat) (hi : i ≤ l.length) :
    RdV f w B (.slice (some (ad.add i)) (l.length - i) (c - i)) (l.drop i) := by
  obtain ⟨A', c', hv, hc, hm, hr⟩ := h
  cases hv
  refine ⟨_, c - i, by rw [List.length_drop], by rw [List.length_drop]; omega, by omega, fun j x hx => ⟨_, rfl, ?_⟩⟩
  rw [List.getElem?_drop] at hx
  obtain ⟨ad', h1, h2, h3⟩ := hr (i + j) x hx
  cases h1
  exact ⟨by rw [block_add]; exact h2, by rw [addr_add_add]; exact h3⟩
/-- make([]T, 0, n). -/
theorem OwnV.made0 {α : Type} (f : α → Value) (z : Value) (e : TypeId) (w : World) (base n : Nat) (hb : base ≤ w.heap.size) (hm : n ≤ maxLen) :
    OwnV f e (w.alloc (.cells (madeCells #[z] n) e)) base (.slice (some ⟨w.heap.size, 0, none⟩) 0 n) [] :=
  World.ownsRow_made w _ n hb hm (by rw [size_madeCells, Nat.mul_one])
/-- []byte{}. -/
theorem OwnB.empty (e : TypeId) (w : World) (base c : Nat) (hb : base ≤ w.heap.size) (cur : Array Value) (hc : cur.size = c) (hm : c ≤ maxLen) : OwnB e (w.alloc (.cells cur e)) base (.slice (some ⟨w.heap.size, 0, none⟩) 0 c) [] :=
  World.ownsRow_made w cur c hb hm (by rw [hc, Nat.mul_one])
theorem OwnB.below {e : TypeId} {w w' : World} {base : Nat} {v : Value} {bs : List UInt8} (h : OwnB e w base v bs) (hb : Below w.heap.size w w') : OwnB e w' base v bs := by
  refine World.ownsRow.kept (row := none) h ⟨hb.os, hb.tape, hb.output, hb.size, fun b hlt _ => hb.block b hlt⟩ ?_
  rcases hv : v.ownBlock with _ | b
  · exact .inl rfl
  · exact .inr (by simp)
/-- A row's next room, asked by a length below four fifths of the greatest. -/
theorem grow_le (need : Nat) : ∀ (r c : Nat), c < need → Builtin.growBy need r c ≤ need + need / 4 + 192
  | 0, c, h => by unfold Builtin.growBy; omega
  | r + 1, c, h => by
    unfold Builtin.growBy
    rw [if_neg (by omega)]
    by_cases h2 : c + (c + 768) / 4 < need
    · exact grow_le need r _ h2
    · cases r with
      | zero => unfold Builtin.growBy; omega
      | succ r => unfold Builtin.growBy; rw [if_pos (by omega)]; omega
theorem next_le {need old : Nat} (h : old < need) : Builtin.nextslicecap need old ≤ need + need / 4 + 512 := by
  unfold Builtin.nextslicecap
  split
  · omega
  · split
    · omega
    · have := grow_le need 4 old h; omega
theorem strCells_bv (s : ByteArray) : Lib.strCells s = s.data.toList.map bv := rfl
section
variable {P : Program}
theorem run_appS (w : World) (base : Nat) (t u ty e : TypeId) (ht : P.underlying t = some (.slice e)) (hu : P.underlying u = some .string) (hinfo : (P.info? e).map (fun i => (i.zero, i.size, i.bytes)) = some (some (.int .u8 0), 1, 1))
    (v : Value) (bs : List UInt8) (hown : OwnB e w base v bs) (s : ByteArray) (hlen : bs.length + s.size ≤ 225179981368000) (hbase : base ≤ w.heap.size) :
    ∃ v' w', (Builtin.append_ #[t, u] ty #[v, .string s]).run P w = .ok v' w' ∧ OwnB e w' base v' (bs ++ s.data.toList) ∧ w.grownBy w' v.ownBlock := by
  obtain ⟨i, hi, hz, hsz, hby⟩ := info_parts hinfo
  have fin : ∀ v' w', w'.ownsRow base e 1 v' (bs.length + s.size) (bs.map bv ++ Lib.strCells s) → OwnB e w' base v' (bs ++ s.data.toList) := fun v' w' h => by
    unfold OwnB
    rw [List.map_append, List.length_append, size_list]
    exact h
  by_cases hsmall : bs.length + s.size ≤ 140737488355328
  · obtain ⟨v', w', h1, h2, h3, _⟩ := Lib.run_append_own_string (P := P) w base t u ty e i ht hu hi hz hsz hby v bs.length (bs.map bv) hown s (by unfold maxLen; omega) hsmall hbase
    exact ⟨v', w', h1, fin v' w' h2, h3⟩
  · have hxl : (bs.map bv).length = bs.length := List.length_map _
    have hsl := Lib.strCells_length s
    have hown' : w.ownsRow base e 1 v bs.length (bs.map bv) := hown
    rcases hown'.2 with ⟨rfl, h0⟩ | ⟨g, cap, cur, rfl, hbg, hg, hnc, hcm, hcs, htake⟩
    · have h0' : bs = [] := List.eq_nil_of_length_eq_zero h0
      subst h0'
      simp only [List.length_nil, Nat.zero_add] at hsmall hlen
      have hr := run_append_nil_string (P := P) w t u ty e i (.int .u8 0) ht hu hi hz s (by omega) (by omega) (by rw [hby]; omega)
      have hge := grownCap_ge w s.size 0 e
      have hcm := grownCap_le_maxLen w s.size 0 e (by unfold maxLen; omega)
      have e1 : (s.data.map fun b => Value.int .u8 b.toNat) = (Lib.strCells s).toArray := by
        apply Array.ext'
        simp [Lib.strCells]
      rw [e1] at hr
      refine ⟨_, _, hr, fin _ _ ⟨by simp [hsl], .inr ⟨w.heap.size, _, _, by simp, hbase, heap_alloc_new w.drew _, by simpa using hge, hcm, ?_, ?_⟩⟩, rfl, rfl, rfl, by simp, fun k hk _ => heap_alloc_old w.drew _ hk⟩
      · have hz1 : (Value.int IntKind.u8 0).cells.size = 1 := rfl
        simp only [Array.size_append, List.size_toArray, size_zeroCells, hz1, hsl]
        omega
      · rw [Array.toList_append, List.map_nil, List.nil_append, List.length_nil, Nat.zero_add, Nat.mul_one, ← hsl]
        exact List.take_left
    · have hcs' : cur.size = cap := by simpa using hcs
      have htk : cur.toList.take bs.length = bs.map bv := by simpa using htake
      by_cases hroom : bs.length + s.size ≤ cap
      · have hr := Lib.run_append_room_string (P := P) w t u ty e i ht hu hi hsz g bs.length cap cur hg s hroom (by omega)
        refine ⟨_, _, hr, fin _ _ ⟨by rw [List.length_append, hxl, hsl, Nat.mul_one], .inr ⟨g, cap, _, rfl, hbg, setRow_heap w g cur _ e _ hg, hroom, hcm, ?_, ?_⟩⟩, rfl, rfl, rfl, by simp, fun k _ hk => setRow_other w g k _ (fun e => hk (by simp [Value.ownBlock, e]))⟩
        · simp only [List.size_toArray, List.length_append, List.length_take, List.length_drop, Array.length_toList, hsl]
          omega
        · rw [htk, Nat.mul_one]
          have : bs.length + s.size = (bs.map bv ++ Lib.strCells s).length := by rw [List.length_append, hxl, hsl]
          rw [this]
          exact List.take_left
      · have holds : ∀ j u, (bs.map bv)[j]? = some u → w.cell? ((⟨g, 0, none⟩ : Addr).add j) = some u := hown'.cells (g := g) rfl
        have hnx := next_le (need := bs.length + s.size) (old := cap) (by omega)
        have hr := Lib.run_append_grow_string (P := P) w t u ty e i (.int .u8 0) ht hu hi hz ⟨g, 0, none⟩ bs.length cap (bs.map bv) (by rw [hsz, hxl, Nat.mul_one]) holds s (by omega) (by omega) (by rw [hby]; omega)
        have hge := grownCap_ge w (bs.length + s.size) cap e
        have hcm2 := grownCap_le_maxLen w (bs.length + s.size) cap e (by unfold maxLen; omega)
        refine ⟨_, _, hr, fin _ _ ⟨by rw [List.length_append, hxl, hsl, Nat.mul_one], .inr ⟨w.heap.size, _, _, rfl, hbase, heap_alloc_new w.drew _, hge, hcm2, ?_, ?_⟩⟩, rfl, rfl, rfl, by simp, fun k hk _ => heap_alloc_old w.drew _ hk⟩
        · have hz1 : (Value.int IntKind.u8 0).cells.size = 1 := rfl
          simp only [Array.size_append, List.size_toArray, size_zeroCells, hz1, hxl, hsl]
          omega
        · have : (bs.length + s.size) * 1 = (bs.map bv ++ Lib.strCells s).length := by rw [List.length_append, hxl, hsl, Nat.mul_one]
          rw [this, Array.toList_append, Array.toList_append]
          exact List.take_left
/-- append(b, s...), s a text. -/
theorem wpl_appS {w : World} {ops : Array Oper} {rest : List Oper} {o : Oper} {a : Act} {Q : Exit → Act → World → Prop} (hgd : o.guard = none) (sl x : Operand) (t u : TypeId)
    (ho : o.op = .call { callee := .builtin .append, args := #[sl, x], argTypes := #[t, u] })
    (base : Nat) (e : TypeId) (ht : P.underlying t = some (.slice e)) (hu : P.underlying u = some .string) (hinfo : (P.info? e).map (fun i => (i.zero, i.size, i.bytes)) = some (some (.int .u8 0), 1, 1))
    (v : Value) (bs : List UInt8) (hs : a.eval sl = v) (hown : OwnB e w base v bs) (s : ByteArray) (hx : a.eval x = .string s) (hlen : bs.length + s.size ≤ 225179981368000) (hbase : base ≤ w.heap.size)
    (h : ∀ v' w', OwnB e w' base v' (bs ++ s.data.toList) → Below base w w' → w.grownBy w' v.ownBlock → wpList P ops Q rest (a.put o.dst v') w') : wpList P ops Q (o :: rest) a w := by
  refine wpList_plain hgd fun K hK => ?_
  obtain ⟨v', w', hr, h2, h3⟩ := run_appS (P := P) w base t u o.type e ht hu hinfo v bs hown s hlen hbase
  have hbel : Below base w w' := (Below.refl _ _).grown h3 hbase (fun b hb => (World.ownsRow.lt hown b hb).1)
  unfold Oper.wp execOp
  simp only [ho, resolve, invoke, builtin, Sem.run_bind, Sem.run_pure, Result.andThen_ok, List.map_toArray, List.map_cons, List.map_nil, hs, hx, hr]
  exact hK _ _ (h v' w' h2 hbel h3)
end
end Go.VB

/- The walks over package rle and its reference: runs. -/
namespace Go.Proofs.YtbolbbngncnecaaGreat
open Go.RowKit Go.VB Go.VarM Go.RL
set_option maxRecDepth 100000 in
set_option maxHeartbeats 1000000 in
theorem first_any (v : Value) (l : List Int) (x : Int) (B : Nat) (w : World) (hr : RdV (Value.int .i64) w B v l) (hB : B ≤ w.heap.size) (hx : l[0]? = some x) :
    Calls Tryz.prog 98 #[v] w (RetB (.int .i64 (fr x l : Nat)) w) := by
  obtain ⟨A, c, rfl, hc1, hc2, hr'⟩ := hr
  have hr : RdV (Value.int .i64) w B (.slice A l.length c) l := ⟨A, c, rfl, hc1, hc2, hr'⟩
  clear hr'
  unfold maxLen at hc2
  have h0 := fr_step hx
  rw [List.drop_zero] at h0
  have hl0 : 0 < l.length := (List.getElem?_eq_some_iff.1 hx).1
  have hfl := fr_le x l
  generalize hT : fr x l = T at h0 hfl ⊢
  have HT := Lib.hid hT; have H0 := Lib.hid h0; have HR := Lib.hid hr; have HX := Lib.hid hx
  clear hT h0 hr hx
  go_enter Tryz.func98, Tryz.ntmps98
  go_wp2
  go_loopw [3] (fun i wr => ∃ j : Nat, i = .int .i64 j ∧ j ≤ l.length ∧ 1 ≤ j ∧ T = fr x (l.drop j) + j ∧ Below w.heap.size w wr) (fun i _ => l.length - (intOf i).toNat)
  case atStart => exact ⟨1, rfl, hl0, Nat.le_refl _, H0.out, Below.refl _ _⟩
  case round =>
    obtain ⟨j, rfl, hj, hj1, hs, hbel⟩ := hrel
    have HS := Lib.hid hs; clear hs
    by_cases hlt : j < l.length
    · have hlj : l[j]? = some l[j] := List.getElem?_eq_getElem hlt
      obtain ⟨_, _, hv1, _, _, hcx⟩ := HR.out.below (hbel.mono hB)
      cases hv1
      obtain ⟨ad, rfl, _, hgx⟩ := hcx j _ hlj
      obtain ⟨_, e1, _, hg0⟩ := hcx 0 _ HX.out
      cases e1
      rw [addr_zero] at hg0
      have hst : l[j] = x → fr x (l.drop j) = fr x (l.drop (j + 1)) + 1 := fun e => fr_step (by rw [hlj, e])
      have hsp : l[j] ≠ x → fr x (l.drop j) = 0 := fun e => fr_stop hlj e
      have HST := Lib.hid hst; have HSP := Lib.hid hsp
      clear hcx hlj hst hsp
      generalize l[j] = y at hgx HST HSP
      by_cases hy : y = x
      · subst hy
        have hd : (y == y) = true := beq_self_eq_true _
        go_wp2_with fail
        go_region
        go_wp2_with fail
        go_roundw
        case rel => exact ⟨j + 1, by go_num, hlt, by omega, by rw [HS.out, HST.out (by simp)]; omega, hbel.drew⟩
        case measure => simp [intOf] <;> omega
      · have hd : (y == x) = false := beq_eq_false_iff_ne.2 hy
        have HY := Lib.hid hy; clear hy
        go_wp2_with fail
        go_region
        go_wp2
        go_ret
        exact RetB.mk (vint (by rw [HS.out, HSP.out HY.out]; simp)) hbel.drew
    · have he := fr_end (v := x) (l := l) (j := j) (by omega)
      have HE := Lib.hid he; clear he
      go_wp2_with fail
      go_region
      go_wp2
      go_ret
      exact RetB.mk (vint (by rw [HS.out, HE.out]; simp)) hbel.drew
end Go.Proofs.YtbolbbngncnecaaGreat

/- The walks over package rle and its reference: counting runs, Encode. -/
namespace Go.Proofs.YtbolbbngncnecaaGreat
open Go.RowKit Go.VB Go.VarM Go.RL
theorem zig_nat {x : Int} (h : -9223372036854775808 ≤ x ∧ x ≤ 9223372036854775807) : ∃ z : Nat, zigN x = z ∧ (zigN x).toNat = z ∧ z < 18446744073709551616 :=
  ⟨(zigN x).toNat, by rw [Int.toNat_of_nonneg (zig_bd h.1 h.2).1], rfl, zig_lt h⟩
theorem drop0 {l : List Int} {i : Nat} (h : i < l.length) : (l.drop i)[0]? = some l[i] := by
  rw [List.getElem?_drop, Nat.add_zero, List.getElem?_eq_getElem h]
set_option maxRecDepth 100000 in
set_option maxHeartbeats 2000000 in
theorem encode_any (v : Value) (l : List Int) (B : Nat) (w : World) (hr : RdV (Value.int .i64) w B v l) (hB : B ≤ w.heap.size) (hi : I64 l) (hl : l.length ≤ 17592186043904) :
    Calls Tryz.prog 71 #[v] w (RetB (.string (str (encR l))) w) := by
  obtain ⟨A, c, rfl, hc1, hc2, hr'⟩ := hr
  have hr : RdV (Value.int .i64) w B (.slice A l.length c) l := ⟨A, c, rfl, hc1, hc2, hr'⟩
  clear hr'
  unfold maxLen at hc2
  have HR := Lib.hid hr; clear hr
  have hlen := encR_len hi
  have HI := Lib.hid hi; clear hi
  generalize hT : encR l = T at hlen
  have HT := Lib.hid hT; clear hT
  go_enter Tryz.func71, Tryz.ntmps71
  go_wp2
  go_loopw [3, 4] (fun v i wr => ∃ (bs : List UInt8) (j : Nat), i = .int .i64 j ∧ j ≤ l.length ∧ OwnB 5 wr w.heap.size v bs ∧ bs ++ encR (l.drop j) = T ∧ Below w.heap.size w wr) (fun _ i _ => l.length - (intOf i).toNat)
  case atStart => exact ⟨[], 0, rfl, Nat.zero_le _, OwnB.empty _ _ _ _ (Nat.le_refl _) _ rfl (by decide), by rw [List.drop_zero, List.nil_append]; exact HT.out, (Below.refl _ _).alloc (Nat.le_refl _) _⟩
  case round =>
    obtain ⟨bs, j, rfl, hj, hown, hs, hbel⟩ := hrel
    by_cases hlt : j < l.length
    · have hlj : l[j]? = some l[j] := List.getElem?_eq_getElem hlt
      obtain ⟨h2, h3⟩ := fr_at hlj
      rw [encR_at hlj, run1] at hs
      have hx := HI.out.at hlj
      obtain ⟨z, hz1, hz2, hz3⟩ := zig_nat hx
      have HZ := fun w => vzig_any l[j] w hx.1 hx.2
      rw [hz1] at HZ
      rw [hz2] at hs
      obtain ⟨_, _, hv1, _, _, hcx⟩ := HR.out.below (hbel.mono hB)
      cases hv1
      obtain ⟨ad, rfl, hab, hgx⟩ := hcx j _ hlj
      have HC := Lib.hid (first_any _ _ _ B wr ((HR.out.below (hbel.mono hB)).tail j (by omega)) (Nat.le_trans hB hbel.size) (drop0 hlt))
      clear hcx hlj hz1 hz2 hx
      generalize fr l[j] (l.drop j) = q at *
      generalize l[j] = x at *
      have hq : q < 18446744073709551616 := by omega
      have hsum := congrArg List.length hs
      simp only [List.length_append] at hsum
      have hP := fun w => vput_any q w hq
      have hZ := fun w => vput_any z w hz3
      have hsP := str_size (putL q)
      have hsZ := str_size (putL z)
      have HS := Lib.hid hs; have HZZ := fun w => Lib.hid (HZ w); have HP := fun w => Lib.hid (hP w); have HZ' := fun w => Lib.hid (hZ w)
      clear hs HZ hP hZ
      have H4 : bs.length + (putL q).length + (putL z).length ≤ 193514046482944 := by omega
      clear hsum
      have H5 : bs.length + (str (putL q)).size ≤ 225179981368000 := by omega
      have H6 : (bs ++ (str (putL q)).data.toList).length + (str (putL z)).size ≤ 225179981368000 := by rw [List.length_append, size_list]; omega
      have H5' := Lib.hid H5; have H6' := Lib.hid H6
      clear hsP hsZ H4 H5 H6 hz3 hq
      have hab' : ∀ (w' : World), Below w.heap.size w w' → (ad.add j).block < w'.heap.size := fun _ h => by rw [block_add]; have := h.size; omega
      have HAB := Lib.hid hab'; clear hab'
      have hab2 : (ad.add j).block < w.heap.size := by rw [block_add]; omega
      go_wp2_with (first
        | (go_at_call 98; (with_reducible refine HC.out.mono ?_); rintro e w2 ⟨rfl, hb⟩; replace hgx := (hb.cell (HAB.out _ hbel)).trans hgx; replace hown := hown.below hb; replace hbel := bel_trans hbel hb; clear hb)
        | (go_at_call 52; (with_reducible refine (HP _).out.mono ?_); rintro e w3 ⟨rfl, hb⟩; replace hgx := (hb.cell (HAB.out _ hbel)).trans hgx; replace hown := hown.below hb; replace hbel := bel_trans hbel hb; clear hb)
        | (at_builtin; refine wpl_appS rfl _ _ 30 9 rfl w.heap.size 5 Tryz.underlying30 Tryz.underlying9 Tryz.infoU8 _ bs rfl hown _ rfl H5'.out hbel.size ?_; intro v4 w4 hown4 hb hg; replace hgx := (hb.cell hab2).trans hgx; clear hown; have hown := hown4; clear hown4; replace hbel := hbel.trans hb; clear hb hg)
        | (go_at_call 99; (with_reducible refine (HZZ _).out.mono ?_); rintro e w' ⟨rfl, rfl⟩)
        | (go_at_call 52; (with_reducible refine (HZ' _).out.mono ?_); rintro e w5 ⟨rfl, hb⟩; replace hgx := (hb.cell (HAB.out _ hbel)).trans hgx; replace hown := hown.below hb; replace hbel := bel_trans hbel hb; clear hb)
        | (at_builtin; refine wpl_appS rfl _ _ 30 9 rfl w.heap.size 5 Tryz.underlying30 Tryz.underlying9 Tryz.infoU8 _ (bs ++ (str (putL q)).data.toList) rfl hown _ rfl H6'.out hbel.size ?_; intro v6 w6 hown6 hb hg; clear hown; have hown := hown6; clear hown6; replace hbel := hbel.trans hb; clear hb hg))
      go_roundw
      case rel => exact ⟨_, j + q, by go_num, h3, hown, by rw [← HS.out, str_toList, str_toList]; simp only [List.append_assoc], hbel⟩
      case measure => simp [intOf] <;> omega
    · have hcv := run_string_of_own (P := Tryz.prog) 30 9 5 Tryz.underlying30 Tryz.underlying5 Tryz.underlying9 hown
      have HS := Lib.hid hs; clear hs
      go_wp2
      go_ret
      have he : l.drop j = [] := List.drop_eq_nil_of_le (by omega)
      exact RetB.mk (by have h := HS.out; rw [he, encR_nil, List.append_nil] at h; rw [h]; rfl) hbel
end Go.Proofs.YtbolbbngncnecaaGreat

/- The walk over the reference's count of runs. -/
namespace Go.Proofs.YtbolbbngncnecaaGreat
open Go.RowKit Go.VB Go.VarM Go.RL
end Go.Proofs.YtbolbbngncnecaaGreat

/- The walk over the reference's encoding of runs. -/
namespace Go.Proofs.YtbolbbngncnecaaGreat
open Go.RowKit Go.VB Go.VarM Go.RL
theorem run_add_strs {P : Program} (a b : List UInt8) (h : a.length + b.length ≤ 4611686018427387904) (w : World) : (Op.stringOp .add (str a) (str b)).run P w = .ok (.string (str (a ++ b))) w := by
  rw [run_string_add_sum w (str a) (str b) (by rw [str_size, str_size]; omega), str_append]
set_option maxRecDepth 100000 in
set_option maxHeartbeats 4000000 in
theorem rencode_any (v : Value) (l : List Int) (B : Nat) (w : World) (hr : RdV (Value.int .i64) w B v l) (hB : B ≤ w.heap.size) (hi : I64 l) (hl : l.length ≤ 17592186043904) :
    Calls Tryz.prog 35 #[v] w (RetB (.string (str (encR l))) w) := by
  obtain ⟨A, c, rfl, hc1, hc2, hr'⟩ := hr
  have hr : RdV (Value.int .i64) w B (.slice A l.length c) l := ⟨A, c, rfl, hc1, hc2, hr'⟩
  clear hr'
  unfold maxLen at hc2
  have HR := Lib.hid hr; clear hr
  have hlen := encR_len hi
  have HI := Lib.hid hi; clear hi
  generalize hT : encR l = T at hlen
  have HT := Lib.hid hT; clear hT
  go_enter Tryz.func35, Tryz.ntmps35
  go_wp2
  go_loopw [3, 4] (fun v i wr => ∃ (bs : List UInt8) (j : Nat), v = .string (str bs) ∧ i = .int .i64 j ∧ j ≤ l.length ∧ bs ++ encR (l.drop j) = T ∧ Below w.heap.size w wr) (fun _ i _ => l.length - (intOf i).toNat)
  case atStart => exact ⟨[], 0, rfl, rfl, Nat.zero_le _, by rw [List.drop_zero, List.nil_append]; exact HT.out, Below.refl _ _⟩
  case round =>
    obtain ⟨bs, j, rfl, rfl, hj, hs, hbel⟩ := hrel
    by_cases hlt : j < l.length
    · have hlj : l[j]? = some l[j] := List.getElem?_eq_getElem hlt
      obtain ⟨h2, h3⟩ := fr_at hlj
      rw [encR_at hlj, run1] at hs
      have hx := HI.out.at hlj
      obtain ⟨z, hz1, hz2, hz3⟩ := zig_nat hx
      have HZ := fun w => rzig_any l[j] w hx.1 hx.2
      rw [hz1] at HZ
      rw [hz2] at hs
      have hrd := HR.out.below (hbel.mono hB)
      have hlx := hlj
      clear hlj hz1 hz2 hx
      have hfx : ∃ q, fr l[j] (l.drop j) = q := ⟨_, rfl⟩
      obtain ⟨q, hq⟩ := hfx
      rw [hq] at hs h2 h3
      generalize l[j] = x at *
      have hq64 : q < 18446744073709551616 := by omega
      have hsum := congrArg List.length hs
      simp only [List.length_append] at hsum
      have hP := fun w => rput_any q w hq64
      have hZ := fun w => rput_any z w hz3
      have a1 := fun w => run_add_strs (P := Tryz.prog) (putL q) (putL z) (by omega) w
      have a2 := fun w => run_add_strs (P := Tryz.prog) bs (putL q ++ putL z) (by rw [List.length_append]; omega) w
      have hBo := Nat.le_trans hB hbel.size
      have HW1 := Lib.hid (show IntKind.i64.wrap (q : Int) = (q : Int) from IntWalk.i64_in _ ⟨by omega, by omega⟩)
      have HW2 := Lib.hid (show IntKind.u64.wrap (q : Int) = (q : Int) from IntWalk.u64_in _ ⟨by omega, by omega⟩)
      have A1 := fun w => Lib.hid (a1 w); have A2 := fun w => Lib.hid (a2 w)
      have HS := Lib.hid hs; have HZZ := fun w => Lib.hid (HZ w); have HP := fun w => Lib.hid (hP w); have HZ' := fun w => Lib.hid (hZ w); have HQ := Lib.hid hq; have HX := Lib.hid hlx; have HRD := Lib.hid hrd
      clear hs HZ hP hZ hsum hz3 hq64 a1 a2 hq hlx hrd
      go_wp2_with fail
      go_loopw [5] (fun k wk => ∃ m : Nat, k = .int .i64 m ∧ j ≤ m ∧ m ≤ l.length ∧ m + fr x (l.drop m) = j + q ∧ Below wr.heap.size wr wk) (fun k _ => l.length - (intOf k).toNat)
      case atStart => exact ⟨j, rfl, Nat.le_refl _, hj, by rw [HQ.out], Below.refl _ _⟩
      case round =>
        obtain ⟨m, rfl, hm1, hm2, hms, hbelk⟩ := hrel
        have HMS := Lib.hid hms; clear hms
        obtain ⟨_, _, hv1, _, _, hcx⟩ := HRD.out.below (hbelk.mono (Nat.le_trans hB hbel.size))
        cases hv1
        obtain ⟨ad, rfl, hab, hgx⟩ := hcx j _ HX.out
        by_cases hmt : m < l.length
        · have hlm : l[m]? = some l[m] := List.getElem?_eq_getElem hmt
          obtain ⟨_, e1, _, hgm⟩ := hcx m _ hlm
          cases e1
          have hst : l[m] = x → fr x (l.drop m) = fr x (l.drop (m + 1)) + 1 := fun e => fr_step (by rw [hlm, e])
          have hsp : l[m] ≠ x → fr x (l.drop m) = 0 := fun e => fr_stop hlm e
          have HST := Lib.hid hst; have HSP := Lib.hid hsp
          clear hcx hlm hst hsp
          generalize l[m] = y at hgm HST HSP
          by_cases hy : y = x
          · subst hy
            have hd : (y == y) = true := beq_self_eq_true _
            go_wp2_with fail
            go_region
            go_wp2_with fail
            go_roundw
            case rel => exact ⟨m + 1, by go_num, by omega, hmt, by have h := HMS.out; rw [HST.out (by simp)] at h; omega, hbelk.drew⟩
            case measure => simp [intOf] <;> omega
          · have hd : (y == x) = false := beq_eq_false_iff_ne.2 hy
            have he := HSP.out hy
            have hmq : (m : Int) - (j : Int) = (q : Int) := by have h := HMS.out; rw [he] at h; omega
            have HMQ := Lib.hid hmq
            clear hy HST HSP he HMS hmq
            go_wp2_with fail
            go_region
            have hmq := HMQ.out
            replace hbelk := hbelk.drew.drew
            have hw1 := HW1.out; have hw2 := HW2.out
            have a1 := fun w => (A1 w).out; have a2 := fun w => (A2 w).out
            go_wp2_with fail
            go_region_with (first
              | (go_at_call 15; (with_reducible refine (HP _).out.mono ?_); rintro e w3 ⟨rfl, hb⟩; replace hgx := (hb.cell (by rw [block_add]; have := hbelk.size; omega)).trans hgx; replace hbelk := bel_trans hbelk hb; clear hb)
              | (go_at_call 40; (with_reducible refine (HZZ _).out.mono ?_); rintro e w' ⟨rfl, rfl⟩)
              | (go_at_call 15; (with_reducible refine (HZ' _).out.mono ?_); rintro e w5 ⟨rfl, hb⟩; replace hgx := (hb.cell (by rw [block_add]; have := hbelk.size; omega)).trans hgx; replace hbelk := bel_trans hbelk hb; clear hb))
            all_goals
              clear A1 A2 a1 a2 HP HZZ HZ' hw1 hw2 HW1 HW2
              go_wp2_with fail
              go_roundw
              case rel => exact ⟨bs ++ (putL q ++ putL z), m, rfl, rfl, hm2, by rw [show m = j + q by omega, ← HS.out]; simp only [List.append_assoc], bel_trans hbel hbelk⟩
              case measure => simp [intOf] <;> omega
        · have he := fr_end (v := x) (l := l) (j := m) (by omega)
          have hmq : (m : Int) - (j : Int) = (q : Int) := by have h := HMS.out; rw [he] at h; omega
          have HMQ := Lib.hid hmq
          clear he HMS hmq hcx
          go_wp2_with fail
          go_region
          have hmq := HMQ.out
          replace hbelk := hbelk.drew.drew
          have hw1 := HW1.out; have hw2 := HW2.out
          have a1 := fun w => (A1 w).out; have a2 := fun w => (A2 w).out
          go_wp2_with fail
          go_region_with (first
            | (go_at_call 15; (with_reducible refine (HP _).out.mono ?_); rintro e w3 ⟨rfl, hb⟩; replace hgx := (hb.cell (by rw [block_add]; have := hbelk.size; omega)).trans hgx; replace hbelk := bel_trans hbelk hb; clear hb)
            | (go_at_call 40; (with_reducible refine (HZZ _).out.mono ?_); rintro e w' ⟨rfl, rfl⟩)
            | (go_at_call 15; (with_reducible refine (HZ' _).out.mono ?_); rintro e w5 ⟨rfl, hb⟩; replace hgx := (hb.cell (by rw [block_add]; have := hbelk.size; omega)).trans hgx; replace hbelk := bel_trans hbelk hb; clear hb))
          all_goals
            clear A1 A2 a1 a2 HP HZZ HZ' hw1 hw2 HW1 HW2
            go_wp2_with fail
            go_roundw
            case rel => exact ⟨bs ++ (putL q ++ putL z), m, rfl, rfl, hm2, by rw [show m = j + q by omega, ← HS.out]; simp only [List.append_assoc], bel_trans hbel hbelk⟩
            case measure => simp [intOf] <;> omega
    · have HS := Lib.hid hs; clear hs
      go_wp2
      go_ret
      have he : l.drop j = [] := List.drop_eq_nil_of_le (by omega)
      exact RetB.mk (by have h := HS.out; rw [he, encR_nil, List.append_nil] at h; rw [h]; rfl) hbel
end Go.Proofs.YtbolbbngncnecaaGreat

/- The walks over package rle: one run read, Decode. -/
namespace Go.RL
open Go.RowKit Go.VB Go.VarM
/-- The length of a slice. -/
def lenV : Value → Nat
  | .slice _ n _ => n
  | _ => 0
theorem last_at {l : List Int} {n : Nat} (h : l.length = n + 1) : l.getLast? = l[n]? := by
  rw [List.getLast?_eq_getElem?, h]; rfl
theorem rep_snoc (l : List Int) (t : Nat) (v : Int) : l ++ List.replicate t v ++ [v] = l ++ List.replicate (t + 1) v := by
  rw [List.append_assoc, ← List.replicate_succ']
end Go.RL
namespace Go.Proofs.YtbolbbngncnecaaGreat
open Go.RowKit Go.VB Go.VarM Go.RL
theorem Tryz.infI64 : (Tryz.prog.info? 2).map (fun i => (i.zero, i.size, i.bytes)) = some (some (.int .i64 0), 1, 8) := by kernel_rfl
theorem results_tmp4r {fn : Func} {t u v x : Tmp} {P : Program} (h : fn.results = #[.tmp t, .tmp u, .tmp v, .tmp x]) (tmps : Array Value) (w : World) :
    (results fn tmps).run P w = .ok (.tuple #[tmps.getD t undef, tmps.getD u undef, tmps.getD v undef, tmps.getD x undef]) w := by
  simp [results, h]
theorem run_make0 {P : Program} {t e : TypeId} {bytes : Nat} {z : Value} (hz1 : z.cells = #[z]) (ht : P.underlying t = some (.slice e)) (hinfo : (P.info? e).map (fun i => (i.zero, i.size, i.bytes)) = some (some z, 1, bytes))
    (n : Nat) (hb : bytes * n ≤ 281474976710656) (hm : n ≤ maxLen) (w : World) :
    (Instr.makeSlice t (.int .i64 0) (.int .i64 (n : Int))).run P w = .ok (.slice (some ⟨w.heap.size, 0, none⟩) 0 n) (w.alloc (.cells (madeCells #[z] n) e)) := by
  obtain ⟨i, hi, hz, hsz, hby⟩ := info_parts hinfo
  unfold maxLen at hm
  have h := run_make (P := P) w t e i z ht hi hz .i64 .i64 0 n (by omega) (by omega) (by rw [hby, ← Int.natCast_mul]; omega) (by omega)
  rw [Int.toNat_natCast, hsz, Nat.mul_one, hz1] at h
  exact h
section
variable (s : ByteArray) (p : Int) (m : Nat) (w : World) (hs : s.size ≤ maxLen)
include hs
set_option maxHeartbeats 400000 in
theorem getrun_e1 {a : Nat} {b : Int} {c : Nat} (hg : getR s p = (a, b, c)) (hc : c ≠ 0) :
    Calls Tryz.prog 108 #[.string s, .int .i64 p, .int .i64 (m : Int)] w (Ret (.tuple #[.int .i64 0, .int .i64 0, .int .i64 0, .int .i64 (c : Int)]) w) := by
  have HG := Lib.hid (vget_is s p w hs hg)
  have hd : ((c : Int) != 0) = true := by simp; omega
  clear hg hc
  go_enter Tryz.func108, Tryz.ntmps108
  go_wp2_with (go_at_call 82; (with_reducible refine HG.out.mono ?_); rintro e w' ⟨rfl, rfl⟩)
  (try simp only [Exit.inBlock, Exit.then]); refine bodyPost_ret (results_tmp4r rfl _ _) rfl ?_
  exact Ret.mk rfl
set_option maxHeartbeats 400000 in
theorem getrun_k (hm : m ≤ 1000000) {a : Nat} {b : Int} (hg : getR s p = (a, b, 0)) (hk : a = 0 ∨ m < a) :
    Calls Tryz.prog 108 #[.string s, .int .i64 p, .int .i64 (m : Int)] w (Ret (.tuple #[.int .i64 0, .int .i64 0, .int .i64 0, .int .i64 2]) w) := by
  have HG := Lib.hid (vget_ok s p w hs hg)
  clear hg
  by_cases h0 : a = 0
  · subst h0
    go_enter Tryz.func108, Tryz.ntmps108
    go_wp2_with (go_at_call 82; (with_reducible refine HG.out.mono ?_); rintro e w' ⟨rfl, rfl⟩)
    (try simp only [Exit.inBlock, Exit.then]); refine bodyPost_ret (results_tmp4r rfl _ _) rfl ?_
    exact Ret.mk rfl
  · have hd : ((a : Int) == 0) = false := by simp; omega
    have hk' : m < a := by omega
    clear hk h0
    go_enter Tryz.func108, Tryz.ntmps108
    go_wp2_with (go_at_call 82; (with_reducible refine HG.out.mono ?_); rintro e w' ⟨rfl, rfl⟩)
    (try simp only [Exit.inBlock, Exit.then]); refine bodyPost_ret (results_tmp4r rfl _ _) rfl ?_
    exact Ret.mk rfl
set_option maxHeartbeats 400000 in
theorem getrun_e2 (hm : m ≤ 1000000) {a : Nat} {b : Int} {z : Nat} {b' : Int} {c : Nat} (hg : getR s p = (a, b, 0)) (hk : 1 ≤ a ∧ a ≤ m) (hg2 : getR s b = (z, b', c)) (hc : c ≠ 0) :
    Calls Tryz.prog 108 #[.string s, .int .i64 p, .int .i64 (m : Int)] w (Ret (.tuple #[.int .i64 0, .int .i64 0, .int .i64 0, .int .i64 (c : Int)]) w) := by
  have HG := Lib.hid (vget_ok s p w hs hg); have HG2 := Lib.hid (vget_is s b w hs hg2)
  obtain ⟨hk1, hk2⟩ := hk
  have hd : ((a : Int) == 0) = false := by simp; omega
  have hd2 : ((c : Int) != 0) = true := by simp; omega
  clear hg hg2 hc
  go_enter Tryz.func108, Tryz.ntmps108
  go_wp2_with (first
    | (go_at_call 82; (with_reducible refine HG.out.mono ?_); rintro e w' ⟨rfl, rfl⟩)
    | (go_at_call 82; (with_reducible refine HG2.out.mono ?_); rintro e w' ⟨rfl, rfl⟩))
  (try simp only [Exit.inBlock, Exit.then]); refine bodyPost_ret (results_tmp4r rfl _ _) rfl ?_
  exact Ret.mk rfl
set_option maxHeartbeats 400000 in
theorem getrun_ok (hm : m ≤ 1000000) {a : Nat} {b : Int} {z : Nat} {b' : Int} (hg : getR s p = (a, b, 0)) (hk : 1 ≤ a ∧ a ≤ m) (hg2 : getR s b = (z, b', 0)) :
    Calls Tryz.prog 108 #[.string s, .int .i64 p, .int .i64 (m : Int)] w (Ret (.tuple #[.int .i64 (a : Int), .int .i64 (zagN z), .int .i64 b', .int .i64 0]) w) := by
  have HG := Lib.hid (vget_ok s p w hs hg); have HG2 := Lib.hid (vget_ok s b w hs hg2)
  have hz : z < 18446744073709551616 := by
    obtain ⟨_, _, _, _, _, _, _, h⟩ := getR_zero hg2; exact h
  have HZ := Lib.hid (vzag_any z w (by omega) (by omega))
  obtain ⟨hk1, hk2⟩ := hk
  have hd : ((a : Int) == 0) = false := by simp; omega
  clear hg hg2
  go_enter Tryz.func108, Tryz.ntmps108
  go_wp2_with (first
    | (go_at_call 82; (with_reducible refine HG.out.mono ?_); rintro e w' ⟨rfl, rfl⟩)
    | (go_at_call 82; (with_reducible refine HG2.out.mono ?_); rintro e w' ⟨rfl, rfl⟩)
    | (go_at_call 123; (with_reducible refine HZ.out.mono ?_); rintro e w' ⟨rfl, rfl⟩))
  (try simp only [Exit.inBlock, Exit.then]); refine bodyPost_ret (results_tmp4r rfl _ _) rfl ?_
  exact Ret.mk rfl
end
end Go.Proofs.YtbolbbngncnecaaGreat

/- The walk over Decode of package rle. -/
namespace Go.Proofs.YtbolbbngncnecaaGreat
open Go.RowKit Go.VB Go.VarM Go.RL
set_option maxRecDepth 100000 in
set_option maxHeartbeats 4000000 in
theorem decode_any (s : ByteArray) (n : Int) (w : World) (hs : s.size ≤ 140737488351232) :
    Calls Tryz.prog 84 #[.string s, .int .i64 n] w (RetVE (Value.int .i64) 2 (decR s n).1 (decR s n).2 w) := by
  by_cases hn : n < 0 ∨ 4096 < n
  · rw [decR_out hn]
    rcases hn with hn | hn
    · go_enter Tryz.func84, Tryz.ntmps84
      go_wp2
      go_ret2
      exact RetVE.mk rfl (OwnV.nil _ _ _ _) (Below.refl _ _)
    · by_cases h0 : n < 0
      · omega
      · go_enter Tryz.func84, Tryz.ntmps84
        go_wp2
        go_ret2
        exact RetVE.mk rfl (OwnV.nil _ _ _ _) (Below.refl _ _)
  obtain ⟨n, rfl⟩ : ∃ k : Nat, n = k := ⟨n.toNat, by omega⟩
  have hn' : n ≤ 4096 := by omega
  clear hn
  rw [decR_in hn']
  have hmx : s.size ≤ maxLen := by unfold maxLen; omega
  have hd0 : decide ((4096 : Int) < (n : Int)) = false := decide_eq_false (by omega)
  have hmk := run_make0 (P := Tryz.prog) (z := .int .i64 0) rfl Tryz.underlying70 Tryz.infI64 n (by omega) (by unfold maxLen; omega) w
  have hrow := OwnV.made0 (Value.int .i64) (.int .i64 0) 2 w w.heap.size n (Nat.le_refl _) (by unfold maxLen; omega)
  have hb0 : Below w.heap.size w (w.alloc (.cells (madeCells #[.int .i64 0] n) 2)) := (Below.refl _ _).alloc (Nat.le_refl _) _
  have hg0 := w.heap.size
  generalize hR : dec s n 0 [] = R
  have HR := Lib.hid hR; clear hR
  have HV : ∀ g : Nat, (Value.slice (some ⟨g, 0, none⟩) 0 n : Value) = Value.slice (some ⟨g, 0, none⟩) 0 n := fun _ => rfl
  generalize hW : (w.alloc (.cells (madeCells #[.int .i64 0] n) 2)) = W1 at hrow hb0
  rw [hW] at hmk
  clear hW
  go_enter Tryz.func84, Tryz.ntmps84
  go_wp2_with fail
  clear hmk
  go_loopw [6, 7] (fun v a wr => ∃ (ls : List Int) (p : Nat), a = .int .i64 p ∧ p ≤ s.size ∧ OwnV (Value.int .i64) 2 wr w.heap.size v ls ∧ ls.length ≤ n ∧ dec s n p ls = R ∧ Below w.heap.size w wr) (fun v _ _ => n - lenV v)
  case atStart => exact ⟨[], 0, rfl, Nat.zero_le _, hrow, Nat.zero_le _, HR.out, hb0⟩
  case round =>
    obtain ⟨ls, p, rfl, hp, hown, hln, hdec, hbel⟩ := hrel
    have HD := Lib.hid hdec; clear hdec
    obtain ⟨A, c, rfl, hc1, hc2, hcx⟩ := hown.read
    have HOWN := Lib.hid hown; clear hown
    unfold maxLen at hc2
    by_cases hlt : ls.length < n
    · obtain ⟨a, b, c1, hg⟩ : ∃ a b c, getR s p = (a, b, c) := ⟨_, _, _, rfl⟩
      by_cases hc0 : c1 = 0
      · subst hc0
        by_cases hk : 1 ≤ a ∧ a ≤ n - ls.length
        · obtain ⟨z, b', c2, hg2⟩ : ∃ a' b' c', getR s b = (a', b', c') := ⟨_, _, _, rfl⟩
          by_cases hc3 : c2 = 0
          · subst hc3
            obtain ⟨p', hpe, hpb⟩ : ∃ p' : Nat, b' = p' ∧ p' ≤ s.size := by
              obtain ⟨k, m, _, h2, _, h3, _⟩ := getR_zero hg2
              exact ⟨k + m, by omega, h3⟩
            subst hpe
            have HC := Lib.hid (getrun_ok s p (n - ls.length) wr hmx (by omega) hg hk hg2)
            have hcast : ((n - ls.length : Nat) : Int) = (n : Int) - (ls.length : Int) := by omega
            rw [hcast] at HC
            have HG := Lib.hid hg; have HG2 := Lib.hid hg2
            have HGO := Lib.hid (dec_go (s := s) (l := ls) hlt hg hk hg2)
            have HVV := Lib.hid (dec_v (s := s) (l := ls) hlt hg hk hg2)
            obtain ⟨hk1, hk2⟩ := hk
            clear hg hg2 hcast
            generalize zagN (z : Int) = V at *
            by_cases hne : ls.length = 0
            · have hnil : ls = [] := List.eq_nil_of_length_eq_zero hne
              have HFIN := Lib.hid ((HGO.out (by rw [hnil]; simp)).symm.trans HD.out)
              have hl0 : ls.length ≤ 0 := by omega
              clear HGO HVV HD hcx hne hnil
              clear HG HG2
              go_wp2_with (go_at_call 108; (with_reducible refine HC.out.mono ?_); rintro e w' ⟨rfl, rfl⟩)
              clear HC
              go_loopw [6, 53] (fun v t wk => ∃ j : Nat, t = .int .i64 j ∧ j ≤ a ∧ OwnV (Value.int .i64) 2 wk w.heap.size v (ls ++ List.replicate j V) ∧ Below w.heap.size w wk) (fun _ t _ => a - (intOf t).toNat)
              case atStart => exact ⟨0, rfl, Nat.zero_le _, by rw [List.replicate_zero, List.append_nil]; exact HOWN.out, hbel⟩
              case round =>
                obtain ⟨j, rfl, hj, hownj, hbelj⟩ := hrel
                have hlj : (ls ++ List.replicate j V).length = ls.length + j := by rw [List.length_append, List.length_replicate]
                have hszj := hbelj.size
                by_cases hja : j < a
                · have HLJ := Lib.hid hlj
                  have hbd : (ls ++ List.replicate j V).length ≤ 4096 := by omega
                  have HBD := Lib.hid hbd; clear hlj hbd
                  go_wp2_with (at_builtin; refine wpl_appV (f := Value.int .i64) (fun _ => rfl) (.int .i64 0) rfl rfl _ _ 70 rfl w.heap.size 2 8 Tryz.underlying70 Tryz.infI64 _ (ls ++ List.replicate j V) rfl (hownj.alloc _) _ _ [V] rfl (RdV.one _ _ _ _ _ (by decide) (by decide)) (by have := HBD.out; unfold maxLen; simp only [List.length_cons, List.length_nil]; omega) (by have := HBD.out; simp only [List.length_cons, List.length_nil]; omega) (by simp; omega) ?_)
                  intro v' w' hown' hb' _
                  go_wp2_with fail
                  go_roundw
                  case rel => exact ⟨j + 1, by go_num, hja, by rw [← rep_snoc, List.append_assoc]; exact hown', (hbelj.alloc hszj _).trans hb'⟩
                  case measure => simp [intOf] <;> omega
                · have hjj : j = a := by omega
                  have HJJ := Lib.hid hjj; clear hjj
                  have hfin : dec s n p' (ls ++ List.replicate a V) = R := HFIN.out
                  have HF := Lib.hid hfin; clear hfin
                  obtain ⟨A', c', hv', _, _, _⟩ := hownj.read
                  have HV' := Lib.hid hv'; have HLJ := Lib.hid hlj; clear hv' hlj
                  go_wp2_with fail
                  go_roundw
                  case rel => exact ⟨ls ++ List.replicate j V, p', rfl, hpb, hownj, by rw [HLJ.out]; omega, by rw [HJJ.out]; exact HF.out, hbelj⟩
                  case measure => rw [HV'.out]; simp only [lenV]; rw [HLJ.out]; omega
            · obtain ⟨V0, hV0⟩ : ∃ V0, ls[ls.length - 1]? = some V0 := ⟨_, List.getElem?_eq_getElem (by omega)⟩
              obtain ⟨ad, rfl, _, hgx⟩ := hcx _ _ hV0
              rw [← List.getLast?_eq_getElem?] at hV0
              have hl1 : 1 ≤ ls.length := by omega
              clear hne hcx
              by_cases hv : V0 = V
              · subst hv
                have hR := (HVV.out hV0).symm.trans HD.out
                have HR := Lib.hid hR
                have hd : (V0 == V0) = true := beq_self_eq_true _
                clear hV0 HVV HGO HD hR
                go_wp2_with (go_at_call 108; (with_reducible refine HC.out.mono ?_); rintro e w' ⟨rfl, rfl⟩)
                go_ret2
                rw [← HR.out]
                exact RetVE.mk rfl (OwnV.nil _ _ _ _) hbel
              · have HFIN := Lib.hid ((HGO.out (by rw [hV0]; simpa using hv)).symm.trans HD.out)
                have hd : (V0 == V) = false := beq_eq_false_iff_ne.2 hv
                clear HGO HVV HD hV0 hv
                clear HG HG2
                go_wp2_with (go_at_call 108; (with_reducible refine HC.out.mono ?_); rintro e w' ⟨rfl, rfl⟩)
                clear HC
                go_loopw [6, 53] (fun v t wk => ∃ j : Nat, t = .int .i64 j ∧ j ≤ a ∧ OwnV (Value.int .i64) 2 wk w.heap.size v (ls ++ List.replicate j V) ∧ Below w.heap.size w wk) (fun _ t _ => a - (intOf t).toNat)
                case atStart => exact ⟨0, rfl, Nat.zero_le _, by rw [List.replicate_zero, List.append_nil]; exact HOWN.out, hbel⟩
                case round =>
                  obtain ⟨j, rfl, hj, hownj, hbelj⟩ := hrel
                  have hlj : (ls ++ List.replicate j V).length = ls.length + j := by rw [List.length_append, List.length_replicate]
                  have hszj := hbelj.size
                  by_cases hja : j < a
                  · have HLJ := Lib.hid hlj
                    have hbd : (ls ++ List.replicate j V).length ≤ 4096 := by omega
                    have HBD := Lib.hid hbd; clear hlj hbd
                    go_wp2_with (at_builtin; refine wpl_appV (f := Value.int .i64) (fun _ => rfl) (.int .i64 0) rfl rfl _ _ 70 rfl w.heap.size 2 8 Tryz.underlying70 Tryz.infI64 _ (ls ++ List.replicate j V) rfl (hownj.alloc _) _ _ [V] rfl (RdV.one _ _ _ _ _ (by decide) (by decide)) (by have := HBD.out; unfold maxLen; simp only [List.length_cons, List.length_nil]; omega) (by have := HBD.out; simp only [List.length_cons, List.length_nil]; omega) (by simp; omega) ?_)
                    intro v' w' hown' hb' _
                    go_wp2_with fail
                    go_roundw
                    case rel => exact ⟨j + 1, by go_num, hja, by rw [← rep_snoc, List.append_assoc]; exact hown', (hbelj.alloc hszj _).trans hb'⟩
                    case measure => simp [intOf] <;> omega
                  · have hjj : j = a := by omega
                    have HJJ := Lib.hid hjj; clear hjj
                    have hfin : dec s n p' (ls ++ List.replicate a V) = R := HFIN.out
                    have HF := Lib.hid hfin; clear hfin
                    obtain ⟨A', c', hv', _, _, _⟩ := hownj.read
                    have HV' := Lib.hid hv'; have HLJ := Lib.hid hlj; clear hv' hlj
                    go_wp2_with fail
                    go_roundw
                    case rel => exact ⟨ls ++ List.replicate j V, p', rfl, hpb, hownj, by rw [HLJ.out]; omega, by rw [HJJ.out]; exact HF.out, hbelj⟩
                    case measure => rw [HV'.out]; simp only [lenV]; rw [HLJ.out]; omega
          · have HC := Lib.hid (getrun_e2 s p (n - ls.length) wr hmx (by omega) hg hk hg2 hc3)
            have hcast : ((n - ls.length : Nat) : Int) = (n : Int) - (ls.length : Int) := by omega
            rw [hcast] at HC
            have hR := HD.out
            rw [dec_e2 hlt hg hk hg2 hc3] at hR
            have HR := Lib.hid hR
            have hd : ((c2 : Int) != 0) = true := by simp; omega
            clear hR hcast hcx hg hg2 hc3
            go_wp2_with (go_at_call 108; (with_reducible refine HC.out.mono ?_); rintro e w' ⟨rfl, rfl⟩)
            go_ret2
            rw [← HR.out]
            exact RetVE.mk rfl (OwnV.nil _ _ _ _) hbel
        · have HC := Lib.hid (getrun_k s p (n - ls.length) wr hmx (by omega) hg (by omega))
          have hcast : ((n - ls.length : Nat) : Int) = (n : Int) - (ls.length : Int) := by omega
          rw [hcast] at HC
          have hR := HD.out
          rw [dec_k hlt hg (by omega)] at hR
          have HR := Lib.hid hR
          clear hR hcast hcx hg hk
          go_wp2_with (go_at_call 108; (with_reducible refine HC.out.mono ?_); rintro e w' ⟨rfl, rfl⟩)
          go_ret2
          rw [← HR.out]
          exact RetVE.mk rfl (OwnV.nil _ _ _ _) hbel
      · have HC := Lib.hid (getrun_e1 s p (n - ls.length) wr hmx hg hc0)
        have hcast : ((n - ls.length : Nat) : Int) = (n : Int) - (ls.length : Int) := by omega
        rw [hcast] at HC
        have hR := HD.out
        rw [dec_e1 hlt hg hc0] at hR
        have HR := Lib.hid hR
        have hd : ((c1 : Int) != 0) = true := by simp; omega
        clear hR hcast hcx hg hc0
        go_wp2_with (go_at_call 108; (with_reducible refine HC.out.mono ?_); rintro e w' ⟨rfl, rfl⟩)
        go_ret2
        rw [← HR.out]
        exact RetVE.mk rfl (OwnV.nil _ _ _ _) hbel
    · by_cases hps : p < s.size
      · have hR := HD.out
        rw [dec_left hlt (by omega)] at hR
        have HR := Lib.hid hR; clear hR hcx
        go_wp2
        go_ret2
        rw [← HR.out]
        exact RetVE.mk rfl (OwnV.nil _ _ _ _) hbel
      · have hR := HD.out
        rw [dec_done hlt (by omega)] at hR
        have HR := Lib.hid hR; clear hR hcx
        go_wp2
        go_ret2
        rw [← HR.out]
        exact RetVE.mk rfl HOWN.out hbel
end Go.Proofs.YtbolbbngncnecaaGreat

/- The walk over the reference's reading of runs. -/
namespace Go.Proofs.YtbolbbngncnecaaGreat
open Go.RowKit Go.VB Go.VarM Go.RL
set_option maxRecDepth 100000 in
set_option maxHeartbeats 4000000 in
theorem rdecode_any (s : ByteArray) (n : Int) (w : World) (hs : s.size ≤ 140737488351232) :
    Calls Tryz.prog 96 #[.string s, .int .i64 n] w (RetVE (Value.int .i64) 2 (decR s n).1 (decR s n).2 w) := by
  have h1 := fun w => rsz_any n w
  by_cases hn : n < 0 ∨ 4096 < n
  · rw [decR_out hn]
    rw [decide_eq_false (by omega)] at h1
    have HSZ := fun w => Lib.hid (h1 w); clear h1
    go_enter Tryz.func96, Tryz.ntmps96
    go_wp2_with (go_at_call 92; refine (HSZ _).out.mono ?_; rintro e w' ⟨rfl, rfl⟩)
    go_ret2
    exact RetVE.mk rfl (OwnV.nil _ _ _ _) (Below.refl _ _)
  obtain ⟨n, rfl⟩ : ∃ k : Nat, n = k := ⟨n.toNat, by omega⟩
  have hn' : n ≤ 4096 := by omega
  rw [decide_eq_true (by omega)] at h1
  have HSZ := fun w => Lib.hid (h1 w); clear h1
  clear hn
  rw [decR_in hn']
  have hmx : s.size ≤ maxLen := by unfold maxLen; omega
  generalize hR : dec s n 0 [] = R
  have HR := Lib.hid hR; clear hR
  go_enter Tryz.func96, Tryz.ntmps96
  go_wp2_with (go_at_call 92; refine (HSZ _).out.mono ?_; rintro e w' ⟨rfl, rfl⟩)
  clear HSZ
  go_loopw [6, 7] (fun v a wr => ∃ (ls : List Int) (p : Nat), a = .int .i64 p ∧ p ≤ s.size ∧ OwnV (Value.int .i64) 2 wr w.heap.size v ls ∧ ls.length ≤ n ∧ dec s n p ls = R ∧ Below w.heap.size w wr) (fun v _ _ => n - lenV v)
  case atStart => exact ⟨[], 0, rfl, Nat.zero_le _, OwnV.nil _ _ _ _, Nat.zero_le _, HR.out, Below.refl _ _⟩
  case round =>
    obtain ⟨ls, p, rfl, hp, hown, hln, hdec, hbel⟩ := hrel
    have HD := Lib.hid hdec; clear hdec
    obtain ⟨A, c, rfl, hc1, hc2, hcx⟩ := hown.read
    have HOWN := Lib.hid hown; clear hown
    unfold maxLen at hc2
    by_cases hlt : ls.length < n
    · obtain ⟨a, b, c1, hg⟩ : ∃ a b c, getR s p = (a, b, c) := ⟨_, _, _, rfl⟩
      by_cases hc0 : c1 = 0
      · subst hc0
        by_cases hk : 1 ≤ a ∧ a ≤ n - ls.length
        · obtain ⟨z, b', c2, hg2⟩ : ∃ a' b' c', getR s b = (a', b', c') := ⟨_, _, _, rfl⟩
          by_cases hc3 : c2 = 0
          · subst hc3
            obtain ⟨p', hpe, hpb⟩ : ∃ p' : Nat, b' = p' ∧ p' ≤ s.size := by
              obtain ⟨k, m, _, h2, _, h3, _⟩ := getR_zero hg2
              exact ⟨k + m, by omega, h3⟩
            subst hpe
            have HC1 := fun w => Lib.hid (rget_ok s p w hmx hg); have HC2 := fun w => Lib.hid (rget_ok s b w hmx hg2)
            have hz : z < 18446744073709551616 := by
              obtain ⟨_, _, _, _, _, _, _, h⟩ := getR_zero hg2; exact h
            have HC3 := fun w => Lib.hid (rzag_any z w (by omega) (by omega))
            have hd0 : ((a : Int) == 0) = false := by simp; omega
            clear hz
            have HG := Lib.hid hg; have HG2 := Lib.hid hg2
            have HGO := Lib.hid (dec_go (s := s) (l := ls) hlt hg hk hg2)
            have HVV := Lib.hid (dec_v (s := s) (l := ls) hlt hg hk hg2)
            obtain ⟨hk1, hk2⟩ := hk
            clear hg hg2
            generalize zagN (z : Int) = V at *
            by_cases hne : ls.length = 0
            · have hnil : ls = [] := List.eq_nil_of_length_eq_zero hne
              have HFIN := Lib.hid ((HGO.out (by rw [hnil]; simp)).symm.trans HD.out)
              have hl0 : ls.length ≤ 0 := by omega
              clear HGO HVV HD hcx hne hnil
              clear HG HG2
              go_wp2_with (first
                | (go_at_call 63; (with_reducible refine (HC1 _).out.mono ?_); rintro e w' ⟨rfl, rfl⟩)
                | (go_at_call 63; (with_reducible refine (HC2 _).out.mono ?_); rintro e w' ⟨rfl, rfl⟩)
                | (go_at_call 117; (with_reducible refine (HC3 _).out.mono ?_); rintro e w' ⟨rfl, rfl⟩))
              clear HC1 HC2 HC3
              go_loopw [6, 8] (fun v t wk => ∃ j m : Nat, t = .int .u64 m ∧ j + m ≤ a ∧ a ≤ j + m ∧ OwnV (Value.int .i64) 2 wk w.heap.size v (ls ++ List.replicate j V) ∧ Below w.heap.size w wk) (fun _ t _ => (intOf t).toNat)
              case atStart => exact ⟨0, a, rfl, by omega, by omega, by rw [List.replicate_zero, List.append_nil]; exact HOWN.out, hbel⟩
              case round =>
                obtain ⟨j, m, rfl, hj, hj2, hownj, hbelj⟩ := hrel
                have hlj : (ls ++ List.replicate j V).length = ls.length + j := by rw [List.length_append, List.length_replicate]
                have hszj := hbelj.size
                by_cases hja : 0 < m
                · have HLJ := Lib.hid hlj
                  have hbd : (ls ++ List.replicate j V).length ≤ 4096 := by omega
                  have HBD := Lib.hid hbd; clear hlj hbd
                  go_wp2_with (at_builtin; refine wpl_appV (f := Value.int .i64) (fun _ => rfl) (.int .i64 0) rfl rfl _ _ 70 rfl w.heap.size 2 8 Tryz.underlying70 Tryz.infI64 _ (ls ++ List.replicate j V) rfl (hownj.alloc _) _ _ [V] rfl (RdV.one _ _ _ _ _ (by decide) (by decide)) (by have := HBD.out; unfold maxLen; simp only [List.length_cons, List.length_nil]; omega) (by have := HBD.out; simp only [List.length_cons, List.length_nil]; omega) (by simp; omega) ?_)
                  intro v' w' hown' hb' _
                  go_wp2_with fail
                  go_roundw
                  case rel => exact ⟨j + 1, m - 1, vint (by omega), by omega, by omega, by rw [← rep_snoc, List.append_assoc]; exact hown', (hbelj.alloc hszj _).trans hb'⟩
                  case measure => simp [intOf] <;> omega
                · have hjj : j = a := by omega
                  have HJJ := Lib.hid hjj; clear hjj
                  have hfin : dec s n p' (ls ++ List.replicate a V) = R := HFIN.out
                  have HF := Lib.hid hfin; clear hfin
                  obtain ⟨A', c', hv', _, _, _⟩ := hownj.read
                  have HV' := Lib.hid hv'; have HLJ := Lib.hid hlj; clear hv' hlj
                  go_wp2_with fail
                  go_roundw
                  case rel => exact ⟨ls ++ List.replicate j V, p', rfl, hpb, hownj, by rw [HLJ.out]; omega, by rw [HJJ.out]; exact HF.out, hbelj⟩
                  case measure => rw [HV'.out]; simp only [lenV]; rw [HLJ.out]; omega
            · obtain ⟨V0, hV0⟩ : ∃ V0, ls[ls.length - 1]? = some V0 := ⟨_, List.getElem?_eq_getElem (by omega)⟩
              obtain ⟨ad, rfl, _, hgx⟩ := hcx _ _ hV0
              rw [← List.getLast?_eq_getElem?] at hV0
              have hl1 : 1 ≤ ls.length := by omega
              clear hne hcx
              by_cases hv : V0 = V
              · subst hv
                have hR := (HVV.out hV0).symm.trans HD.out
                have HR := Lib.hid hR
                have hd : (V0 == V0) = true := beq_self_eq_true _
                clear hV0 HVV HGO HD hR
                go_wp2_with (first
                  | (go_at_call 63; (with_reducible refine (HC1 _).out.mono ?_); rintro e w' ⟨rfl, rfl⟩)
                  | (go_at_call 63; (with_reducible refine (HC2 _).out.mono ?_); rintro e w' ⟨rfl, rfl⟩)
                  | (go_at_call 117; (with_reducible refine (HC3 _).out.mono ?_); rintro e w' ⟨rfl, rfl⟩))
                go_ret2
                rw [← HR.out]
                exact RetVE.mk rfl (OwnV.nil _ _ _ _) hbel
              · have HFIN := Lib.hid ((HGO.out (by rw [hV0]; simpa using hv)).symm.trans HD.out)
                have hd : (V0 == V) = false := beq_eq_false_iff_ne.2 hv
                clear HGO HVV HD hV0 hv
                clear HG HG2
                go_wp2_with (first
                  | (go_at_call 63; (with_reducible refine (HC1 _).out.mono ?_); rintro e w' ⟨rfl, rfl⟩)
                  | (go_at_call 63; (with_reducible refine (HC2 _).out.mono ?_); rintro e w' ⟨rfl, rfl⟩)
                  | (go_at_call 117; (with_reducible refine (HC3 _).out.mono ?_); rintro e w' ⟨rfl, rfl⟩))
                clear HC1 HC2 HC3
                go_loopw [6, 8] (fun v t wk => ∃ j m : Nat, t = .int .u64 m ∧ j + m ≤ a ∧ a ≤ j + m ∧ OwnV (Value.int .i64) 2 wk w.heap.size v (ls ++ List.replicate j V) ∧ Below w.heap.size w wk) (fun _ t _ => (intOf t).toNat)
                case atStart => exact ⟨0, a, rfl, by omega, by omega, by rw [List.replicate_zero, List.append_nil]; exact HOWN.out, hbel⟩
                case round =>
                  obtain ⟨j, m, rfl, hj, hj2, hownj, hbelj⟩ := hrel
                  have hlj : (ls ++ List.replicate j V).length = ls.length + j := by rw [List.length_append, List.length_replicate]
                  have hszj := hbelj.size
                  by_cases hja : 0 < m
                  · have HLJ := Lib.hid hlj
                    have hbd : (ls ++ List.replicate j V).length ≤ 4096 := by omega
                    have HBD := Lib.hid hbd; clear hlj hbd
                    go_wp2_with (at_builtin; refine wpl_appV (f := Value.int .i64) (fun _ => rfl) (.int .i64 0) rfl rfl _ _ 70 rfl w.heap.size 2 8 Tryz.underlying70 Tryz.infI64 _ (ls ++ List.replicate j V) rfl (hownj.alloc _) _ _ [V] rfl (RdV.one _ _ _ _ _ (by decide) (by decide)) (by have := HBD.out; unfold maxLen; simp only [List.length_cons, List.length_nil]; omega) (by have := HBD.out; simp only [List.length_cons, List.length_nil]; omega) (by simp; omega) ?_)
                    intro v' w' hown' hb' _
                    go_wp2_with fail
                    go_roundw
                    case rel => exact ⟨j + 1, m - 1, vint (by omega), by omega, by omega, by rw [← rep_snoc, List.append_assoc]; exact hown', (hbelj.alloc hszj _).trans hb'⟩
                    case measure => simp [intOf] <;> omega
                  · have hjj : j = a := by omega
                    have HJJ := Lib.hid hjj; clear hjj
                    have hfin : dec s n p' (ls ++ List.replicate a V) = R := HFIN.out
                    have HF := Lib.hid hfin; clear hfin
                    obtain ⟨A', c', hv', _, _, _⟩ := hownj.read
                    have HV' := Lib.hid hv'; have HLJ := Lib.hid hlj; clear hv' hlj
                    go_wp2_with fail
                    go_roundw
                    case rel => exact ⟨ls ++ List.replicate j V, p', rfl, hpb, hownj, by rw [HLJ.out]; omega, by rw [HJJ.out]; exact HF.out, hbelj⟩
                    case measure => rw [HV'.out]; simp only [lenV]; rw [HLJ.out]; omega
          · have HC1 := fun w => Lib.hid (rget_ok s p w hmx hg); have HC2 := fun w => Lib.hid (rget_is s b w hmx hg2)
            have hd0 : ((a : Int) == 0) = false := by simp; omega
            have hR := HD.out
            rw [dec_e2 hlt hg hk hg2 hc3] at hR
            have HR := Lib.hid hR
            have hd : ((c2 : Int) != 0) = true := by simp; omega
            obtain ⟨hk1, hk2⟩ := hk
            clear hR hcx hg hg2 hc3
            go_wp2_with (first
              | (go_at_call 63; (with_reducible refine (HC1 _).out.mono ?_); rintro e w' ⟨rfl, rfl⟩)
              | (go_at_call 63; (with_reducible refine (HC2 _).out.mono ?_); rintro e w' ⟨rfl, rfl⟩))
            go_ret2
            rw [← HR.out]
            exact RetVE.mk rfl (OwnV.nil _ _ _ _) hbel
        · have HC1 := fun w => Lib.hid (rget_ok s p w hmx hg)
          have hR := HD.out
          rw [dec_k hlt hg (by omega)] at hR
          have HR := Lib.hid hR
          clear hR hcx hg
          by_cases h0 : a = 0
          · subst h0
            go_wp2_with (first
              | (go_at_call 63; (with_reducible refine (HC1 _).out.mono ?_); rintro e w' ⟨rfl, rfl⟩))
            go_ret2
            rw [← HR.out]
            exact RetVE.mk rfl (OwnV.nil _ _ _ _) hbel
          · have hd0 : ((a : Int) == 0) = false := by simp; omega
            have hk2 : n < a + ls.length := by omega
            clear h0 hk
            go_wp2_with (first
              | (go_at_call 63; (with_reducible refine (HC1 _).out.mono ?_); rintro e w' ⟨rfl, rfl⟩))
            go_ret2
            rw [← HR.out]
            exact RetVE.mk rfl (OwnV.nil _ _ _ _) hbel
      · have HC1 := fun w => Lib.hid (rget_is s p w hmx hg)
        have hR := HD.out
        rw [dec_e1 hlt hg hc0] at hR
        have HR := Lib.hid hR
        have hd : ((c1 : Int) != 0) = true := by simp; omega
        clear hR hcx hg hc0
        go_wp2_with (first
          | (go_at_call 63; (with_reducible refine (HC1 _).out.mono ?_); rintro e w' ⟨rfl, rfl⟩))
        go_ret2
        rw [← HR.out]
        exact RetVE.mk rfl (OwnV.nil _ _ _ _) hbel
    · by_cases hps : p < s.size
      · have hR := HD.out
        rw [dec_left hlt (by omega)] at hR
        have HR := Lib.hid hR; clear hR hcx
        go_wp2
        go_ret2
        rw [← HR.out]
        exact RetVE.mk rfl (OwnV.nil _ _ _ _) hbel
      · have hR := HD.out
        rw [dec_done hlt (by omega)] at hR
        have HR := Lib.hid hR; clear hR hcx
        go_wp2
        go_ret2
        rw [← HR.out]
        exact RetVE.mk rfl HOWN.out hbel
end Go.Proofs.YtbolbbngncnecaaGreat
