/- The walks over keep's value: a valid value of a column. -/
import Derived.Test.YtfkdenlpailmeaaDoorValW6
namespace Go.VL
open Go.RowKit Go.VB
/-- A valid value of a column of type ty, of a short text. -/
def VOK (ty : Int) (nul : Bool) (n : Int) (s : ByteArray) : Prop := chk ty true nul n s = 0 ∧ (Lit.int .i64 n).wf = true ∧ s.size ≤ 3
/-- A value that meets p is returned; what is below block B is as it was. -/
def RetV (p : Bool → Int → ByteArray → Prop) (B : Nat) (w0 : World) : Ending → World → Prop := fun e w' =>
  ∃ nul n s, e = .returned (.agg #[.bool nul, .int .i64 n, .string s]) ∧ p nul n s ∧ Below B w0 w'
theorem RetV.mk {p : Bool → Int → ByteArray → Prop} {B : Nat} {w0 w' : World} {x : Value} (nul : Bool) (n : Int) (s : ByteArray) (hx : x = .agg #[.bool nul, .int .i64 n, .string s]) (hp : p nul n s) (hb : Below B w0 w') :
    RetV p B w0 (.returned x) w' := ⟨nul, n, s, by rw [hx], hp, hb⟩
/-- It returns v in the world w'. -/
def RetW (v : Value) (w' : World) : Ending → World → Prop := fun e w'' => e = .returned v ∧ w'' = w'
theorem vok_nul {ty : Int} (h : 1 ≤ ty ∧ ty ≤ 5) : VOK ty true 0 ⟨#[]⟩ := by
  refine ⟨?_, by decide, by decide⟩
  rw [chk_nul (decide_eq_true h)]; rfl
theorem vok_bytes (l : List UInt8) (h : l.length ≤ 3) : VOK 3 false 0 (str l) := by
  refine ⟨?_, by decide, by rw [str_size]; exact h⟩
  rw [chk_val rfl, if_neg (by omega)]
  have : okP 3 0 (str l) = true := decide_eq_true (by rw [str_size]; omega)
  rw [this]; rfl
theorem vok_num {ty n : Int} (h : 1 ≤ ty ∧ ty ≤ 5) (h3 : ty ≠ 3) (hp : okP ty n ⟨#[]⟩ = true) (hw : (Lit.int .i64 n).wf = true) : VOK ty false n ⟨#[]⟩ := by
  refine ⟨?_, hw, by decide⟩
  rw [chk_val (decide_eq_true h), if_neg (by rintro (h | h); exact h3 h.1; exact h.2 rfl), hp]; rfl
theorem and_one_i64 (n : Int) : bits .and .i64 n 1 = 0 ∨ bits .and .i64 n 1 = 1 := by
  unfold bits
  simp
  rw [show 1 % 2 ^ IntKind.i64.bits = 1 from by decide, Nat.and_one_is_mod]
  rcases Nat.mod_two_eq_zero_or_one (n % 2 ^ IntKind.i64.bits).toNat with h | h
  · left; rw [h]; decide
  · right; rw [h]; decide
theorem tmod_bd (n : Int) {m : Int} (hm : 0 < m) : -m < n.tmod m ∧ n.tmod m < m := by
  have h1 := Int.tmod_lt_of_pos n hm
  have h2 := Int.neg_tmod n m
  have h3 := Int.tmod_lt_of_pos (-n) hm
  omega
theorem set3_cells {w : World} {b : Nat} {x y z x0 y0 z0 : Value} (k0 : w.cell? ⟨b, 0, none⟩ = some x0) (k1 : w.cell? ⟨b, 1, none⟩ = some y0) (k2 : w.cell? ⟨b, 2, none⟩ = some z0) :
    (((w.setCell ⟨b, 0, none⟩ x).setCell ⟨b, 1, none⟩ y).setCell ⟨b, 2, none⟩ z).cell? ⟨b, 0, none⟩ = some x ∧
    (((w.setCell ⟨b, 0, none⟩ x).setCell ⟨b, 1, none⟩ y).setCell ⟨b, 2, none⟩ z).cell? ⟨b, 1, none⟩ = some y ∧
    (((w.setCell ⟨b, 0, none⟩ x).setCell ⟨b, 1, none⟩ y).setCell ⟨b, 2, none⟩ z).cell? ⟨b, 2, none⟩ = some z := by
  refine ⟨?_, ?_, ?_⟩
  · rw [World.cell?_setCell_other _ _ _ _ (by simp), World.cell?_setCell_other _ _ _ _ (by simp), World.cell?_setCell_same _ _ _ k0]
  · rw [World.cell?_setCell_other _ _ _ _ (by simp), World.cell?_setCell_same _ _ _ ((World.cell?_setCell_other _ _ _ _ (by simp)).trans k1)]
  · rw [World.cell?_setCell_same _ _ _ ((World.cell?_setCell_other _ _ _ _ (by simp)).trans ((World.cell?_setCell_other _ _ _ _ (by simp)).trans k2))]
end Go.VL
namespace Go.Proofs.YtfkdenlpailmeaaDoor
open Go.RowKit Go.VB Go.VL
set_option maxRecDepth 100000 in
set_option maxHeartbeats 1000000 in
theorem from_any (A : Option Addr) (n c : Nat) (w : World) : Calls Tryd.prog 29 #[.slice A n c] w (RetW (.pointer (some ⟨w.heap.size, 0, none⟩)) (w.alloc (.cells #[.slice A n c, .int .i64 0] 74))) := by
  go_enter Tryd.func29, Tryd.ntmps29
  go_wp2
  go_ret
  exact ⟨rfl, rfl⟩
end Go.Proofs.YtfkdenlpailmeaaDoor
