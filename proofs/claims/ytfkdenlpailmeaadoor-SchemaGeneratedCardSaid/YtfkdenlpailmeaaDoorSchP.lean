/- The grammar of a schema's text: lines, columns, the key; what Parse returns. Plain lists of bytes. -/
import Derived.Test.YtfkdenlpailmeaaDoorSchW3
namespace Go.SC
open Go.RowKit Go.VB Go.VL

/-! ### numbers of at most two digits -/
def scL (n : Nat) : List UInt8 := if n < 10 then [UInt8.ofNat (48 + n)] else [UInt8.ofNat (48 + n / 10), UInt8.ofNat (48 + n % 10)]
def valL : List UInt8 → Nat := fun l => l.foldl (fun v b => v * 10 + (b.toNat - 48)) 0
theorem scL_all : ∀ n : Fin 100, valL (scL n.1) = n.1 ∧ (∀ b ∈ scL n.1, 48 ≤ b.toNat ∧ b.toNat ≤ 57) ∧ 1 ≤ (scL n.1).length ∧ (scL n.1).length ≤ 2 ∧ (scL n.1 = [48] ∨ (scL n.1).getD 0 0 ≠ 48) := by decide +kernel
theorem scL_val {n : Nat} (h : n < 100) : valL (scL n) = n := (scL_all ⟨n, h⟩).1
theorem scL_dig {n : Nat} (h : n < 100) : ∀ b ∈ scL n, 48 ≤ b.toNat ∧ b.toNat ≤ 57 := (scL_all ⟨n, h⟩).2.1
theorem scL_len {n : Nat} (h : n < 100) : 1 ≤ (scL n).length ∧ (scL n).length ≤ 2 := ⟨(scL_all ⟨n, h⟩).2.2.1, (scL_all ⟨n, h⟩).2.2.2.1⟩
theorem scL_lead {n : Nat} (h : n < 100) : scL n = [48] ∨ (scL n).getD 0 0 ≠ 48 := (scL_all ⟨n, h⟩).2.2.2.2
theorem scL_inj {n m : Nat} (hn : n < 100) (hm : m < 100) (h : scL n = scL m) : n = m := by rw [← scL_val hn, h, scL_val hm]
/-- l is a number of at most two digits without leading zeros. -/
def isSc (l : List UInt8) : Prop := ∃ n, n < 100 ∧ l = scL n
theorem byte_of {b : UInt8} {k : Nat} (h : b.toNat = k) : b = UInt8.ofNat k := by
  rw [← h]; exact (UInt8.ofNat_toNat).symm
theorem isSc_of {l : List UInt8} (h1 : ∀ b ∈ l, 48 ≤ b.toNat ∧ b.toNat ≤ 57) (h2 : 1 ≤ l.length) (h3 : l.length ≤ 2) (h4 : l = [48] ∨ l.getD 0 0 ≠ 48) : isSc l := by
  match l, h2, h3 with
  | [a], _, _ =>
    obtain ⟨p, q⟩ := h1 a (by simp)
    refine ⟨a.toNat - 48, by omega, ?_⟩
    unfold scL
    rw [if_pos (by omega), show 48 + (a.toNat - 48) = a.toNat from by omega, UInt8.ofNat_toNat]
  | [a, b], _, _ =>
    obtain ⟨p, q⟩ := h1 a (by simp)
    obtain ⟨p', q'⟩ := h1 b (by simp)
    have h0 : a.toNat ≠ 48 := by
      rcases h4 with h | h
      · cases h
      · intro e; exact h (show a = 48 from by rw [byte_of e]; rfl)
    refine ⟨(a.toNat - 48) * 10 + (b.toNat - 48), by omega, ?_⟩
    unfold scL
    rw [if_neg (by omega), show 48 + ((a.toNat - 48) * 10 + (b.toNat - 48)) / 10 = a.toNat from by omega, show 48 + ((a.toNat - 48) * 10 + (b.toNat - 48)) % 10 = b.toNat from by omega, UInt8.ofNat_toNat, UInt8.ofNat_toNat]

/-! ### columns -/
def twL (ty : Int) : List UInt8 := (tword ty).data.toList
def okTS (ty sc : Int) : Prop := okT ty = true ∧ (ty = 5 → 0 ≤ sc ∧ sc < 100) ∧ (ty ≠ 5 → sc = 0)
def typL (ty sc : Int) : List UInt8 := twL ty ++ (if ty = 5 then 32 :: scL sc.toNat else [])
def nullL : List UInt8 := [32, 110, 117, 108, 108]
def nulL (nu : Bool) : List UInt8 := if nu then nullL else []
def colL (c : Col) : List UInt8 := c.nm.data.toList ++ 32 :: (typL c.ty c.sc ++ nulL c.nu)
/-- A word: at least one byte, no space. -/
def isW (n : List UInt8) : Prop := n ≠ [] ∧ 32 ∉ n
def okC (c : Col) : Prop := isW c.nm.data.toList ∧ okTS c.ty c.sc
/-- The line l is that of column c. -/
def isCol (l : List UInt8) (c : Col) : Prop := okC c ∧ l = colL c
def keyL : List UInt8 := [107, 101, 121]
/-- The line l is that of the key, whose name is n. -/
def isKey (l n : List UInt8) : Prop := isW n ∧ l = keyL ++ 32 :: n
theorem twL_nosp : ∀ {ty : Int}, okT ty = true → 32 ∉ twL ty := by
  intro ty h
  rcases okT_five h with rfl | rfl | rfl | rfl | rfl <;> decide
theorem twL_ne : ∀ {ty : Int}, okT ty = true → twL ty ≠ [] := by
  intro ty h
  rcases okT_five h with rfl | rfl | rfl | rfl | rfl <;> decide
theorem twL_inj {a b : Int} (ha : okT a = true) (hb : okT b = true) (h : twL a = twL b) : a = b := by
  rcases okT_five ha with rfl | rfl | rfl | rfl | rfl <;> rcases okT_five hb with rfl | rfl | rfl | rfl | rfl <;> first | rfl | (exact absurd h (by decide))
theorem typL_five {sc : Int} : typL 5 sc = twL 5 ++ 32 :: scL sc.toNat := rfl
theorem typL_other {ty sc : Int} (h : ty ≠ 5) : typL ty sc = twL ty := by unfold typL; rw [if_neg h, List.append_nil]
theorem cut_inj {b : UInt8} : ∀ {a a' r r' : List UInt8}, b ∉ a → b ∉ a' → a ++ b :: r = a' ++ b :: r' → a = a' ∧ r = r'
  | [], [], _, _, _, _, h => ⟨rfl, by simpa using h⟩
  | [], x :: a', _, _, _, h2, h => by
    simp only [List.nil_append, List.cons_append, List.cons.injEq] at h
    exact absurd (by rw [h.1]; exact List.mem_cons_self ..) h2
  | x :: a, [], _, _, h1, _, h => by
    simp only [List.nil_append, List.cons_append, List.cons.injEq] at h
    exact absurd (by rw [← h.1]; exact List.mem_cons_self ..) h1
  | x :: a, y :: a', _, _, h1, h2, h => by
    simp only [List.cons_append, List.cons.injEq] at h
    obtain ⟨h3, h4⟩ := cut_inj (fun hm => h1 (List.mem_cons_of_mem _ hm)) (fun hm => h2 (List.mem_cons_of_mem _ hm)) h.2
    exact ⟨by rw [h.1, h3], h4⟩
theorem cut_one {b : UInt8} {a a' r : List UInt8} (h2 : b ∉ a') (h : a ++ b :: r = a') : False := h2 (by rw [← h]; simp)
theorem typL_inj {ty sc ty' sc' : Int} (h : okTS ty sc) (h' : okTS ty' sc') (he : typL ty sc = typL ty' sc') : ty = ty' ∧ sc = sc' := by
  by_cases h5 : ty = 5 <;> by_cases h5' : ty' = 5
  · subst h5; subst h5'
    rw [typL_five, typL_five] at he
    have := (cut_inj (twL_nosp h.1) (twL_nosp h'.1) he).2
    have e := scL_inj (by have := h.2.1 rfl; omega) (by have := h'.2.1 rfl; omega) this
    exact ⟨rfl, by have := h.2.1 rfl; have := h'.2.1 rfl; omega⟩
  · subst h5
    rw [typL_five, typL_other h5'] at he
    exact (cut_one (twL_nosp h'.1) he).elim
  · subst h5'
    rw [typL_five, typL_other h5] at he
    exact (cut_one (twL_nosp h.1) he.symm).elim
  · rw [typL_other h5, typL_other h5'] at he
    exact ⟨twL_inj h.1 h'.1 he, by rw [h.2.2 h5, h'.2.2 h5']⟩
/-- A type's text does not end like ' null'. -/
theorem typL_end {ty sc : Int} (h : okTS ty sc) : ∃ x y r, (32 :: typL ty sc).reverse = x :: y :: r ∧ ¬ (x = 108 ∧ y = 108) := by
  by_cases h5 : ty = 5
  · subst h5
    have hd := scL_dig (n := sc.toNat) (by have := h.2.1 rfl; omega)
    have hl := scL_len (n := sc.toNat) (by have := h.2.1 rfl; omega)
    rw [typL_five]
    generalize scL sc.toNat = l at *
    match l, hl with
    | [a], _ =>
      refine ⟨a, 32, _, rfl, fun e => ?_⟩
      have := hd a (by simp)
      rw [e.1] at this; exact absurd this (by decide)
    | [a, b], _ =>
      refine ⟨b, a, _, rfl, fun e => ?_⟩
      have := hd b (by simp)
      rw [e.1] at this; exact absurd this (by decide)
  · rw [typL_other h5]
    rcases okT_five h.1 with rfl | rfl | rfl | rfl | rfl
    · exact ⟨_, _, _, rfl, by decide⟩
    · exact ⟨_, _, _, rfl, by decide⟩
    · exact ⟨_, _, _, rfl, by decide⟩
    · exact ⟨_, _, _, rfl, by decide⟩
    · exact absurd rfl h5
theorem isCol_suffix {l : List UInt8} {c : Col} (h : isCol l c) : Lib.hasSuffix l nullL = c.nu ∧ Lib.trimSuffix l nullL = c.nm.data.toList ++ 32 :: typL c.ty c.sc := by
  obtain ⟨⟨_, hts⟩, rfl⟩ := h
  have hs : Lib.hasSuffix (colL c) nullL = c.nu := by
    unfold Lib.hasSuffix
    cases hn : c.nu with
    | true =>
      rw [List.isSuffixOf_iff_suffix]
      refine ⟨c.nm.data.toList ++ 32 :: typL c.ty c.sc, ?_⟩
      unfold colL nulL; rw [hn]; simp
    | false =>
      cases hb : nullL.isSuffixOf (colL c) with
      | false => rfl
      | true =>
        rw [List.isSuffixOf_iff_suffix] at hb
        obtain ⟨p, hp⟩ := hb
        obtain ⟨x, y, r, hr, hne⟩ := typL_end hts
        have e1 : (colL c).reverse = x :: y :: (r ++ c.nm.data.toList.reverse) := by
          unfold colL nulL; rw [hn]
          simp only [Bool.false_eq_true, if_false, List.append_nil, List.reverse_append, hr, List.cons_append]
        rw [← hp, List.reverse_append] at e1
        have e2 : nullL.reverse = 108 :: 108 :: [117, 110, 32] := rfl
        rw [e2] at e1
        simp only [List.cons_append, List.cons.injEq] at e1
        exact absurd ⟨e1.1.symm, e1.2.1.symm⟩ hne
  refine ⟨hs, ?_⟩
  unfold Lib.trimSuffix
  rw [hs]
  unfold colL nulL
  cases c.nu with
  | true =>
    simp only [if_true]
    rw [show c.nm.data.toList ++ 32 :: (typL c.ty c.sc ++ nullL) = (c.nm.data.toList ++ 32 :: typL c.ty c.sc) ++ nullL from by simp]
    rw [List.length_append, Nat.add_sub_cancel, List.take_left]
  | false => simp
theorem isCol_inj {l : List UInt8} {c c' : Col} (h : isCol l c) (h' : isCol l c') : c = c' := by
  obtain ⟨s1, t1⟩ := isCol_suffix h
  obtain ⟨s2, t2⟩ := isCol_suffix h'
  have e := cut_inj h.1.1.2 h'.1.1.2 (t1.symm.trans t2)
  obtain ⟨e1, e2⟩ := typL_inj h.1.2 h'.1.2 e.2
  obtain ⟨n1, y1, z1, u1⟩ := c
  obtain ⟨n2, y2, z2, u2⟩ := c'
  have en : n1 = n2 := ByteArray.ext (Array.toList_inj.1 e.1)
  have eu : u1 = u2 := s1.symm.trans s2
  simp only at e1 e2
  rw [en, e1, e2, eu]
theorem isKey_inj {l n n' : List UInt8} (h : isKey l n) (h' : isKey l n') : n = n' := (cut_inj (by decide : (32 : UInt8) ∉ keyL) (by decide : (32 : UInt8) ∉ keyL) (h.2.symm.trans h'.2)).2
open Classical in
/-- The column of a line. -/
noncomputable def pcol (l : List UInt8) : Option Col := if h : ∃ c, isCol l c then some h.choose else none
open Classical in
/-- The name in the line of the key. -/
noncomputable def pkey (l : List UInt8) : Option (List UInt8) := if h : ∃ n, isKey l n then some h.choose else none
theorem pcol_some {l : List UInt8} {c : Col} (h : isCol l c) : pcol l = some c := by
  unfold pcol
  rw [dif_pos ⟨c, h⟩]
  exact congrArg some (isCol_inj (Exists.choose_spec (⟨c, h⟩ : ∃ c, isCol l c)) h)
theorem pcol_none {l : List UInt8} (h : ¬ ∃ c, isCol l c) : pcol l = none := dif_neg h
theorem pkey_some {l n : List UInt8} (h : isKey l n) : pkey l = some n := by
  unfold pkey
  rw [dif_pos ⟨n, h⟩]
  exact congrArg some (isKey_inj (Exists.choose_spec (⟨n, h⟩ : ∃ n, isKey l n)) h)
theorem pkey_none {l : List UInt8} (h : ¬ ∃ n, isKey l n) : pkey l = none := dif_neg h

/-! ### lines -/
/-- The lines of a text, without their ends, and what stands behind the last end. -/
def lns : List UInt8 → List (List UInt8) × List UInt8
  | [] => ([], [])
  | b :: r => if b = 10 then ([] :: (lns r).1, (lns r).2) else match (lns r).1 with
    | [] => ([], b :: (lns r).2)
    | t :: ts => ((b :: t) :: ts, (lns r).2)
def unl (ts : List (List UInt8)) (tail : List UInt8) : List UInt8 := ts.flatMap (fun t => t ++ [10]) ++ tail
theorem unl_cons (t : List UInt8) (ts : List (List UInt8)) (tail : List UInt8) : unl (t :: ts) tail = t ++ 10 :: unl ts tail := by unfold unl; simp
theorem unl_nil (tail : List UInt8) : unl [] tail = tail := rfl
def NL (ts : List (List UInt8)) (tail : List UInt8) : Prop := (∀ t ∈ ts, (10 : UInt8) ∉ t) ∧ (10 : UInt8) ∉ tail
theorem lns_ok : ∀ l : List UInt8, unl (lns l).1 (lns l).2 = l ∧ NL (lns l).1 (lns l).2
  | [] => ⟨rfl, by simp [lns], by simp [lns]⟩
  | b :: r => by
    obtain ⟨h1, h2, h3⟩ := lns_ok r
    unfold lns
    by_cases hb : b = 10
    · rw [if_pos hb]
      refine ⟨?_, ?_, h3⟩
      · show unl ([] :: (lns r).1) (lns r).2 = _
        rw [unl_cons, h1, hb]; rfl
      · intro t ht
        rcases List.mem_cons.1 ht with rfl | ht
        · simp
        · exact h2 t ht
    · rw [if_neg hb]
      revert h1 h2 h3
      generalize (lns r).1 = ts
      generalize (lns r).2 = tl
      intro h1 h2 h3
      match ts with
      | [] =>
        refine ⟨?_, by simp, ?_⟩
        · show b :: tl = b :: r
          rw [← h1]; rfl
        · intro hm
          rcases List.mem_cons.1 hm with h | h
          · exact hb h.symm
          · exact h3 h
      | t :: ts =>
        refine ⟨?_, ?_, h3⟩
        · show unl ((b :: t) :: ts) tl = _
          rw [unl_cons] at h1 ⊢
          rw [← h1]; rfl
        · intro x hx
          rcases List.mem_cons.1 hx with rfl | hx
          · intro hm
            rcases List.mem_cons.1 hm with h | h
            · exact hb h.symm
            · exact h2 t (by simp) h
          · exact h2 x (List.mem_cons_of_mem _ hx)
/-- What reading the lines gives: an error with a line number, or columns, the key's name and its line. -/
inductive PRes
  | bad (line : Nat)
  | ok (cs : List Col) (n : List UInt8) (line : Nat)
noncomputable def plr (tail : List UInt8) : List (List UInt8) → List Col → Nat → PRes
  | [], _, k => if tail = [] then .bad 0 else .bad (k + 1)
  | t :: ts, cs, k => match pkey t with
    | some n => if ts = [] ∧ tail = [] then .ok cs n (k + 1) else .bad (k + 2)
    | none => match pcol t with
      | some c => plr tail ts (cs ++ [c]) (k + 1)
      | none => .bad (k + 1)
theorem plr_end {tail : List UInt8} {cs : List Col} {k : Nat} (h : tail = []) : plr tail [] cs k = .bad 0 := by unfold plr; rw [if_pos h]
theorem plr_open {tail : List UInt8} {cs : List Col} {k : Nat} (h : tail ≠ []) : plr tail [] cs k = .bad (k + 1) := by unfold plr; rw [if_neg h]
theorem plr_key {tail t n : List UInt8} {cs : List Col} {k : Nat} (h : isKey t n) (h2 : tail = []) : plr tail [t] cs k = .ok cs n (k + 1) := by
  unfold plr; rw [pkey_some h]; simp only; rw [if_pos ⟨trivial, h2⟩]
theorem plr_more {tail t n : List UInt8} {ts : List (List UInt8)} {cs : List Col} {k : Nat} (h : isKey t n) (h2 : unl ts tail ≠ []) : plr tail (t :: ts) cs k = .bad (k + 2) := by
  unfold plr; rw [pkey_some h]; simp only
  rw [if_neg]
  rintro ⟨rfl, rfl⟩
  exact h2 rfl
theorem plr_col {tail t : List UInt8} {ts : List (List UInt8)} {cs : List Col} {k : Nat} {c : Col} (h : ¬ ∃ n, isKey t n) (h2 : isCol t c) : plr tail (t :: ts) cs k = plr tail ts (cs ++ [c]) (k + 1) := by
  rw [plr, pkey_none h]; simp only; rw [pcol_some h2]
theorem plr_bad {tail t : List UInt8} {ts : List (List UInt8)} {cs : List Col} {k : Nat} (h : ¬ ∃ n, isKey t n) (h2 : ¬ ∃ c, isCol t c) : plr tail (t :: ts) cs k = .bad (k + 1) := by
  rw [plr, pkey_none h]; simp only; rw [pcol_none h2]
/-- What Parse returns. -/
structure PS where
  cs : List Col
  key : Int
  line : Nat
  e : Nat
noncomputable def prsR : PRes → PS
  | .bad line => ⟨[], 0, line, 2⟩
  | .ok cs n line => if fnd cs (str n) < 0 then ⟨[], 0, line, 3⟩ else if chkS cs (fnd cs (str n)) ≠ 0 then ⟨[], 0, 0, chkS cs (fnd cs (str n))⟩ else ⟨cs, fnd cs (str n), 0, 0⟩
noncomputable def prsS (l : List UInt8) : PS := if 65536 < l.length then ⟨[], 0, 0, 7⟩ else prsR (plr (lns l).2 (lns l).1 [] 0)
end Go.SC
