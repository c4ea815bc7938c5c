/- The words of a line; the reference's ReadNumber on at most two bytes. -/
import Derived.Test.YtfkdenlpailmeaaDoorSchR1
import Derived.Test.YtfkdenlpailmeaaDoorSchC3
namespace Go.SC
open Go.RowKit Go.VB Go.VL
def nulW : List UInt8 := [110, 117, 108, 108]
def colB (c : Col) : List (List UInt8) := c.nm.data.toList :: twL c.ty :: (if c.ty = 5 then [scL c.sc.toNat] else [])
/-- The words of a column's line. -/
def colW (c : Col) : List (List UInt8) := colB c ++ (if c.nu then [nulW] else [])
theorem spl_inj {l m : List UInt8} (h : spl l = spl m) : l = m := by rw [← join_spl l, h, join_spl]
theorem spl_app {a r : List UInt8} (h : 32 ∉ a) : spl (a ++ 32 :: r) = a :: spl r := spl_cut r h
theorem scL_nosp {n : Nat} (h : n < 100) : (32 : UInt8) ∉ scL n := fun hm => by have := scL_dig h _ hm; exact absurd this (by decide)
theorem scL_ne {n : Nat} (h : n < 100) : scL n ≠ [] := fun e => by have := (scL_len h).1; rw [e] at this; exact absurd this (by decide)
theorem spl_col {c : Col} (h : okC c) : spl (colL c) = colW c := by
  obtain ⟨⟨hn, hs⟩, ht, h5, hn5⟩ := h
  unfold colL colW colB
  rw [spl_app hs]
  have htw := twL_nosp ht
  by_cases h : c.ty = 5
  · have hsc := scL_nosp (n := c.sc.toNat) (by have := h5 h; omega)
    rw [if_pos h, h, typL_five]
    rw [h] at htw
    rw [List.append_assoc, List.cons_append, spl_app htw]
    cases c.nu with
    | true => unfold nulL nullL; simp only [if_true]; rw [spl_app hsc, spl_one (by decide)]; rfl
    | false => unfold nulL; simp only [Bool.false_eq_true, if_false, List.append_nil]; rw [spl_one hsc]
  · rw [if_neg h, typL_other h]
    cases c.nu with
    | true => unfold nulL nullL; simp only [if_true]; rw [spl_app htw, spl_one (by decide)]; rfl
    | false => unfold nulL; simp only [Bool.false_eq_true, if_false, List.append_nil]; rw [spl_one htw]
theorem isCol_spl {l : List UInt8} {c : Col} : isCol l c ↔ okC c ∧ spl l = colW c := by
  constructor
  · rintro ⟨h, rfl⟩; exact ⟨h, spl_col h⟩
  · rintro ⟨h, he⟩; exact ⟨h, spl_inj (he.trans (spl_col h).symm)⟩
theorem isKey_spl {l n : List UInt8} : isKey l n ↔ isW n ∧ spl l = [keyL, n] := by
  have e : ∀ n : List UInt8, 32 ∉ n → spl (keyL ++ 32 :: n) = [keyL, n] := fun n hn => by rw [spl_app (by decide), spl_one hn]
  constructor
  · rintro ⟨h, rfl⟩; exact ⟨h, e n h.2⟩
  · rintro ⟨h, he⟩; exact ⟨h, spl_inj (he.trans (e n h.2).symm)⟩
theorem colW_ne {c : Col} (h : okC c) : [] ∉ colW c := by
  obtain ⟨⟨hn, _⟩, ht, h5, _⟩ := h
  intro hm
  unfold colW colB at hm
  rcases List.mem_append.1 hm with hm | hm
  · rcases List.mem_cons.1 hm with e | hm
    · exact hn e.symm
    · rcases List.mem_cons.1 hm with e | hm
      · exact twL_ne ht e.symm
      · split at hm
        · exact scL_ne (by have := h5 (by assumption); omega) (List.mem_singleton.1 hm).symm
        · cases hm
  · split at hm
    · exact absurd (List.mem_singleton.1 hm) (by decide)
    · cases hm
theorem no_col {l : List UInt8} (h : [] ∈ spl l) : ¬ ∃ c, isCol l c := by
  rintro ⟨c, hc⟩
  obtain ⟨h1, h2⟩ := isCol_spl.1 hc
  rw [h2] at h; exact colW_ne h1 h
theorem no_key {l : List UInt8} (h : [] ∈ spl l) : ¬ ∃ n, isKey l n := by
  rintro ⟨n, hn⟩
  obtain ⟨h1, h2⟩ := isKey_spl.1 hn
  rw [h2] at h
  rcases List.mem_cons.1 h with e | e
  · exact absurd e (by decide)
  · exact h1.1 (List.mem_singleton.1 e).symm
/-- A line of words whose last is null, with more than two. -/
theorem colW_nul {c : Col} {ws : List (List UInt8)} (h : okC c) (he : ws = colW c) (h2 : 2 < ws.length) (hl : ws.getD (ws.length - 1) [] = nulW) : c.nu = true ∧ ws.take (ws.length - 1) = colB c := by
  cases hn : c.nu with
  | true =>
    refine ⟨rfl, ?_⟩
    rw [he]; unfold colW; rw [hn]; simp
  | false =>
    exfalso
    unfold colW colB at he
    rw [hn] at he
    by_cases h5 : c.ty = 5
    · rw [if_pos h5] at he
      simp only [Bool.false_eq_true, if_false, List.append_nil] at he
      rw [he] at hl
      have hl' : scL c.sc.toNat = nulW := hl
      have hd := scL_dig (n := c.sc.toNat) (by have := h.2.2.1 h5; omega) 110 (by rw [hl']; decide)
      exact absurd hd (by decide)
    · rw [if_neg h5] at he
      rw [he] at h2
      exact absurd h2 (by simp)
theorem colW_base {c : Col} (h : c.nu = false) : colW c = colB c := by unfold colW; rw [h]; simp
theorem colB_nu (c : Col) (b : Bool) : colB { c with nu := b } = colB c := rfl
theorem okC_nu {c : Col} (h : okC c) (b : Bool) : okC { c with nu := b } := h
/-- The list without its last. -/
theorem nul_back {ws : List (List UInt8)} (h2 : 2 < ws.length) (hl : ws.getD (ws.length - 1) [] = nulW) : ws = ws.take (ws.length - 1) ++ [nulW] := by
  conv => lhs; rw [← List.take_append_drop (ws.length - 1) ws]
  congr 1
  have h3 : ws.length - 1 < ws.length := by omega
  rw [List.drop_eq_getElem_cons h3]
  rw [List.getD_eq_getElem?_getD, List.getElem?_eq_getElem h3] at hl
  have hl' : ws[ws.length - 1] = nulW := hl
  rw [hl', show ws.length - 1 + 1 = ws.length from by omega, List.drop_length]
/-- Words that are not a column: the others. -/
theorem colB_len (c : Col) : (colB c).length = if c.ty = 5 then 3 else 2 := by unfold colB; split <;> rfl
/-- A line without ' null' at its end. -/
theorem colW_plain {c : Col} {ws : List (List UInt8)} (he : ws = colW c) (hn : ¬ (2 < ws.length ∧ ws.getD (ws.length - 1) [] = nulW)) : c.nu = false ∧ ws = colB c := by
  cases h : c.nu with
  | false => exact ⟨rfl, he.trans (colW_base h)⟩
  | true =>
    exfalso
    apply hn
    unfold colW at he
    rw [h] at he
    simp only [if_true] at he
    have hl := colB_len c
    rw [he]
    constructor
    · rw [List.length_append]; split at hl <;> simp <;> omega
    · simp
theorem plain_three {a b d : List UInt8} {n : Nat} (ha : isW a) (hn : n < 100) (hb : b = twL 5) (hd : d = scL n) : okC ⟨str a, 5, n, false⟩ ∧ [a, b, d] = colW ⟨str a, 5, n, false⟩ :=
  ⟨⟨ha, okTS_five hn⟩, by
    rw [colW_base rfl]
    unfold colB
    simp only [if_true, Int.toNat_natCast]
    rw [str_toList, hb, hd]⟩
theorem plain_two {a b : List UInt8} {ty : Int} (ha : isW a) (ht : okT ty = true) (h5 : ty ≠ 5) (hb : b = twL ty) : okC ⟨str a, ty, 0, false⟩ ∧ [a, b] = colW ⟨str a, ty, 0, false⟩ :=
  ⟨⟨ha, okTS_zero ht h5⟩, by
    rw [colW_base rfl]
    unfold colB
    simp only
    rw [if_neg h5, str_toList, hb]⟩
/-- A number of at most two bytes, or none. -/
def PNum (l : List UInt8) (w : World) : Ending → World → Prop := fun e w' => w = w' ∧ ∃ n c : Int, e = .returned (.tuple #[.int .i64 n, .int .i64 c]) ∧
  ((∃ m : Nat, m < 100 ∧ l = scL m ∧ n = m ∧ c = 0) ∨ (¬ isSc l ∧ (c ≠ 0 ∨ n < 0)))
theorem PNum.no {l : List UInt8} {w : World} {v : Value} {n c : Int} (h : ¬ isSc l) (hc : c ≠ 0 ∨ n < 0) (hv : v = .tuple #[.int .i64 n, .int .i64 c]) : PNum l w (.returned v) w := ⟨rfl, n, c, by rw [hv], .inr ⟨h, hc⟩⟩
theorem PNum.yes {l : List UInt8} {w : World} {v : Value} (h : isSc l) (hv : v = .tuple #[.int .i64 (valL l : Nat), .int .i64 0]) : PNum l w (.returned v) w := by
  obtain ⟨m, hm, rfl⟩ := h
  rw [scL_val hm] at hv
  exact ⟨rfl, m, 0, by rw [hv], .inl ⟨m, hm, rfl, rfl, rfl⟩⟩
theorem neg64s {v : Nat} (h : v ≤ 9223372036854775808) : IntKind.i64.wrap (IntKind.u64.wrap (-(v : Int))) = -(v : Int) := by
  rw [IntKind.wrap_i64, IntKind.wrap_u64]; omega
theorem isSc_dig {l : List UInt8} (h : isSc l) {k : Nat} (hk : k < l.length) : 48 ≤ (l.getD k 0).toNat ∧ (l.getD k 0).toNat ≤ 57 := by
  obtain ⟨n, hn, rfl⟩ := h
  exact scL_dig hn _ (by rw [List.getD_eq_getElem?_getD, List.getElem?_eq_getElem hk]; exact List.getElem_mem hk)
theorem isSc_lead {l : List UInt8} (h : isSc l) (h0 : (l.getD 0 0).toNat = 48) : l.length = 1 := by
  obtain ⟨n, hn, rfl⟩ := h
  rcases scL_lead hn with h | h
  · rw [h]; rfl
  · exact absurd (UInt8.toNat_inj.1 (by rw [h0]; rfl)) h
theorem isSc_all {l : List UInt8} (h1 : 1 ≤ l.length) (h2 : l.length ≤ 2) (hd : ∀ k, k < l.length → 48 ≤ (l.getD k 0).toNat ∧ (l.getD k 0).toNat ≤ 57) (h0 : ¬ ((l.getD 0 0).toNat = 48 ∧ 1 < l.length)) : isSc l := by
  refine isSc_of (all_dig fun i hi => by unfold digN; exact decide_eq_true (hd i hi)) h1 h2 ?_
  by_cases h : l.length = 1
  · by_cases h3 : (l.getD 0 0).toNat = 48
    · left
      match l, h with
      | [a], _ => rw [show a = 48 from UInt8.toNat_inj.1 (by have : a.toNat = 48 := h3; rw [this]; rfl)]
    · right; intro e; rw [e] at h3; exact h3 rfl
  · right; intro e; rw [e] at h0; exact h0 ⟨rfl, by omega⟩
end Go.SC
namespace Go.Proofs.YtfkdenlpailmeaaDoor
open Go.RowKit Go.VB Go.VL Go.SC
set_option linter.constructorNameAsVariable false
end Go.Proofs.YtfkdenlpailmeaaDoor
