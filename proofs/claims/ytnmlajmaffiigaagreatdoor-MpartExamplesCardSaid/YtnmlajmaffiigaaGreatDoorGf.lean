/- The grammar of a schema's text: lines, columns, the key; what Parse returns. Plain lists of bytes. -/
import Derived.Test.YtnmlajmaffiigaaGreatDoorGs
import Derived.Test.YtnmlajmaffiigaaGreatDoorBt2
namespace Go.SC
open Go.RowKit Go.VB Go.VL

/-! ### numbers of at most two digits -/
def scL (n : Nat) : List UInt8 := if n < 10 then [UInt8.ofNat (48 + n)] else [UInt8.ofNat (48 + n / 10), UInt8.ofNat (48 + n % 10)]
def valL : List UInt8 → Nat := fun l => l.foldl (fun v b => v * 10 + (b.toNat - 48)) 0
theorem scL_all : ∀ n : Fin 100, valL (scL n.1) = n.1 ∧ (∀ b ∈ scL n.1, 48 ≤ b.toNat ∧ b.toNat ≤ 57) ∧ 1 ≤ (scL n.1).length ∧ (scL n.1).length ≤ 2 ∧ (scL n.1 = [48] ∨ (scL n.1).getD 0 0 ≠ 48) := by decide +kernel
theorem scL_len {n : Nat} (h : n < 100) : 1 ≤ (scL n).length ∧ (scL n).length ≤ 2 := ⟨(scL_all ⟨n, h⟩).2.2.1, (scL_all ⟨n, h⟩).2.2.2.1⟩
/-! ### columns -/
def twL (ty : Int) : List UInt8 := (tword ty).data.toList
def okTS (ty sc : Int) : Prop := okT ty = true ∧ (ty = 5 → 0 ≤ sc ∧ sc < 100) ∧ (ty ≠ 5 → sc = 0)
def typL (ty sc : Int) : List UInt8 := twL ty ++ (if ty = 5 then 32 :: scL sc.toNat else [])
def nullL : List UInt8 := [32, 110, 117, 108, 108]
def nulL (nu : Bool) : List UInt8 := if nu then nullL else []
def colL (c : Col) : List UInt8 := c.nm.data.toList ++ 32 :: (typL c.ty c.sc ++ nulL c.nu)
/-- A word: at least one byte, no space. -/
def isW (n : List UInt8) : Prop := n ≠ [] ∧ 32 ∉ n
def okC (c : Col) : Prop := isW c.nm.data.toList ∧ okTS c.ty c.sc
/-- The line l is that of column c. -/
def isCol (l : List UInt8) (c : Col) : Prop := okC c ∧ l = colL c
def keyL : List UInt8 := [107, 101, 121]
/-- The line l is that of the key, whose name is n. -/
def isKey (l n : List UInt8) : Prop := isW n ∧ l = keyL ++ 32 :: n
/-! ### lines -/
/-- What Parse returns. -/
structure PS where
  cs : List Col
  key : Int
  line : Nat
  e : Nat
end Go.SC

namespace Go.SC
open Go.RowKit Go.VB Go.VL
/-- The lines of columns. -/
def txC (cs : List Col) : List UInt8 := cs.flatMap fun c => colL c ++ [10]
/-- The text of a valid schema. -/
def fmtL (cs : List Col) (key : Int) : List UInt8 := txC cs ++ (keyL ++ 32 :: ((cs.getD key.toNat col0).nm.data.toList ++ [10]))
/-- What Format returns. -/
def FT (cs : List Col) (key : Int) : ByteArray := if chkS cs key = 0 then str (fmtL cs key) else ⟨#[]⟩
theorem FT_bad {cs : List Col} {key : Int} (h : ¬ chkS cs key = 0) : FT cs key = ⟨#[]⟩ := if_neg h
theorem FT_ok {cs : List Col} {key : Int} (h : chkS cs key = 0) : FT cs key = str (fmtL cs key) := if_pos h
theorem txC_snoc {cs : List Col} {i : Nat} (h : i < cs.length) : txC (cs.take (i + 1)) = txC (cs.take i) ++ (colL (cs.getD i col0) ++ [10]) := by
  unfold txC
  rw [List.take_add_one, List.getD_eq_getElem?_getD, List.getElem?_eq_getElem h, List.flatMap_append]
  show _ ++ List.flatMap _ [cs[i]] = _
  rw [List.flatMap_singleton]
  rfl
/-- What holds of a column of a valid schema. -/
structure CV (c : Col) : Prop where
  name : nameS c.nm = true
  ty : okT c.ty = true
  sc0 : 0 ≤ c.sc
  sc18 : c.sc ≤ 18
  sc5 : c.ty ≠ 5 → c.sc = 0
theorem cv_of {cs : List Col} {key : Int} (h : chkS cs key = 0) {i : Nat} (hi : i < cs.length) : CV (cs.getD i col0) := by
  obtain ⟨_, _, h3, _, _⟩ := chkS_ok h
  obtain ⟨a, _, b, c, d, e⟩ := chkCol_ok (h3 i hi)
  exact ⟨a, b, c, d, e⟩
theorem CV.nm_size {c : Col} (h : CV c) : 1 ≤ c.nm.size ∧ c.nm.size ≤ 16 := ⟨(nameS_ok h.name).1.1, (nameS_ok h.name).1.2.1⟩
theorem twL_len {ty : Int} (h : okT ty = true) : (twL ty).length ≤ 7 := by
  rcases okT_five7 h with rfl | rfl | rfl | rfl | rfl <;> decide
theorem colL_len {c : Col} (h : CV c) : (colL c).length ≤ 39 := by
  have h1 := h.nm_size.2
  have h2 := twL_len h.ty
  have h3 := scL_len (n := c.sc.toNat) (by have := h.sc18; omega)
  have h4 : (typL c.ty c.sc).length ≤ 10 := by
    unfold typL
    rw [List.length_append]
    split
    · rw [List.length_cons]; omega
    · simp; omega
  have h5 : (nulL c.nu).length ≤ 5 := by unfold nulL; split <;> decide
  have h6 : c.nm.data.toList.length = c.nm.size := size_list _
  unfold colL
  simp only [List.length_append, List.length_cons]
  omega
theorem txC_len {cs : List Col} {key : Int} (h : chkS cs key = 0) : ∀ i, i ≤ cs.length → (txC (cs.take i)).length ≤ 40 * i
  | 0, _ => by simp [txC]
  | i + 1, hi => by
    have h1 := txC_len h i (by omega)
    have h2 := colL_len (cv_of h (i := i) (by omega))
    rw [txC_snoc (by omega), List.length_append, List.length_append, List.length_singleton]
    omega
theorem scL_small {n : Nat} (h : n < 10) : scL n = [UInt8.ofNat (48 + n)] := by unfold scL; rw [if_pos h]
theorem scL_big {n : Nat} (h : ¬ n < 10) : scL n = [UInt8.ofNat (48 + n / 10), UInt8.ofNat (48 + n % 10)] := by unfold scL; rw [if_neg h]
/-- Two texts put together. -/
theorem add_str {P : Program} (a b : List UInt8) (h : a.length + b.length ≤ 1000000) : ∀ w, (Op.stringOp .add (str a) (str b)).run P w = .ok (.string (str (a ++ b))) w := fun w => by
  rw [run_string_add_sum w (str a) (str b) (by rw [str_size, str_size]; omega), str_append]
end Go.SC
namespace Go.Proofs.YtnmlajmaffiigaaGreatDoor
open Go.RowKit Go.VB Go.VL Go.SC
set_option linter.constructorNameAsVariable false
end Go.Proofs.YtnmlajmaffiigaaGreatDoor
