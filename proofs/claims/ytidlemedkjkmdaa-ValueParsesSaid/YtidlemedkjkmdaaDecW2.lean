/- The walks over the reference's writing of decimals: powers, digits, texts. -/
import Derived.Test.YtidlemedkjkmdaaDecW1
namespace Go.DC
open Go.VB Go.DT
theorem ten_cut : ∀ d, d < 10 → (⟨#[48, 49, 50, 51, 52, 53, 54, 55, 56, 57]⟩ : ByteArray).extract d (d + 1) = str (by8 [48 + d]) := by
  intro d hd
  have hc : d = 0 ∨ d = 1 ∨ d = 2 ∨ d = 3 ∨ d = 4 ∨ d = 5 ∨ d = 6 ∨ d = 7 ∨ d = 8 ∨ d = 9 := by omega
  rcases hc with rfl | rfl | rfl | rfl | rfl | rfl | rfl | rfl | rfl | rfl <;> (apply ByteArray.ext; rfl)
theorem cat_by8 (a b : List Nat) : str (by8 a) ++ str (by8 b) = str (by8 (a ++ b)) := by rw [str_append, ← by8_app]
theorem dg_str_size (v j : Nat) : (str (by8 (dg v j))).size = j := by rw [str_size, by8_len, dg_len]
theorem dg_step (v j : Nat) : dg v (j + 1) = [48 + v / 10 ^ j % 10] ++ dg v j := rfl
theorem div_step (v j : Nat) : v / 10 ^ (j + 1) = v / 10 ^ j / 10 := by rw [Nat.pow_succ, ← Nat.div_div_eq_div_mul]
theorem div_pos_iff {v j : Nat} : 0 < v / 10 ^ j ↔ j < len v := by
  exact Nat.pos_iff_ne_zero.trans ((not_congr div_pow_zero).trans Nat.not_le)
theorem str_size_app {a b : ByteArray} {n : Nat} {x : Nat} (h : a = str (by8 [x])) (hb : b.size = n) : (a ++ b).size = n + 1 := by
  rw [ByteArray.size_append, h, str_size, by8_len, hb, List.length_singleton, Nat.add_comm]
/-- The size of a text, 0 of any other value. -/
def szOf : Value → Nat
  | .string t => t.size
  | _ => 0
end Go.DC
namespace Go.Proofs.Ytidlemedkjkmdaa
open Go.RowKit Go.VB Go.DT Go.DC
end Go.Proofs.Ytidlemedkjkmdaa
