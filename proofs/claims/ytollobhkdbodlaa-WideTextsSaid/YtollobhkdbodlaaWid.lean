/- Plain facts on whole numbers of 128 bits: their two halves, sums, order. -/
import Derived.Test.YtollobhkdbodlaaDecT
namespace Go.WD
open Go.RowKit Go.VB Go.DT Go.DC
/-- The halves of a number modulo 2^128. -/
def hi (z : Int) : Int := wrap64 (z / 18446744073709551616)
def lo (z : Int) : Int := z % 18446744073709551616
/-- The number as a value. -/
def wd (z : Int) : Value := .agg #[.int .i64 (hi z), .int .u64 (lo z)]
theorem wd_is (z : Int) : wd z = .agg #[.int .i64 (hi z), .int .u64 (lo z)] := rfl
theorem hi_bd (z : Int) : -9223372036854775808 ≤ hi z ∧ hi z ≤ 9223372036854775807 := by unfold hi wrap64; omega
theorem lo_bd (z : Int) : 0 ≤ lo z ∧ lo z < 18446744073709551616 := by unfold lo; omega
/-- A number within the 128 bits. -/
def W128 (z : Int) : Prop := -170141183460469231731687303715884105728 ≤ z ∧ z ≤ 170141183460469231731687303715884105727
theorem hi_in {z : Int} (h : W128 z) : hi z = z / 18446744073709551616 := by unfold W128 at h; unfold hi wrap64; omega
theorem split_in {z : Int} (h : W128 z) : z = hi z * 18446744073709551616 + lo z := by rw [hi_in h]; unfold lo; omega
/-- The number that two halves stand for. -/
def two (h l : Int) : Int := h * 18446744073709551616 + l
theorem two_in {h l : Int} (h1 : -9223372036854775808 ≤ h) (h2 : h ≤ 9223372036854775807) (l1 : 0 ≤ l) (l2 : l < 18446744073709551616) : W128 (two h l) ∧ hi (two h l) = h ∧ lo (two h l) = l := by
  unfold W128 two hi lo wrap64; omega
theorem hi_small {n : Int} (h1 : -9223372036854775808 ≤ n) (h2 : n ≤ 9223372036854775807) : hi n = n / 9223372036854775808 := by unfold hi wrap64; omega
/-- Two numbers with the same halves. -/
theorem halves_iff {a b : Int} : (hi a = hi b ∧ lo a = lo b) ↔ a % 340282366920938463463374607431768211456 = b % 340282366920938463463374607431768211456 := by
  unfold hi lo wrap64; omega
theorem same_in {a b : Int} (ha : W128 a) (hb : W128 b) : (hi a = hi b ∧ lo a = lo b) ↔ a = b := by
  refine ⟨fun ⟨h1, h2⟩ => ?_, fun h => by rw [h]; exact ⟨rfl, rfl⟩⟩
  rw [split_in ha, split_in hb, h1, h2]
theorem wd_of {a b : Int} (h : a % 340282366920938463463374607431768211456 = b % 340282366920938463463374607431768211456) : wd a = wd b := by
  obtain ⟨h1, h2⟩ := halves_iff.2 h
  unfold wd; rw [h1, h2]
theorem wd_one : wd 1 = .agg #[.int .i64 0, .int .u64 1] := by rw [wd_is, show hi 1 = 0 from by unfold hi wrap64; omega, show lo 1 = 1 from by unfold lo; omega]
theorem wd_zero : wd 0 = .agg #[.int .i64 0, .int .u64 0] := by rw [wd_is, show hi 0 = 0 from by unfold hi wrap64; omega, show lo 0 = 0 from by unfold lo; omega]
/-! ### sums -/
theorem add_lo (a b : Int) : lo (a + b) = (lo a + lo b) % 18446744073709551616 := by unfold lo; omega
theorem add_hi0 {a b : Int} (h : lo a + lo b < 18446744073709551616) : hi (a + b) = wrap64 (hi a + hi b) := by
  unfold lo at h; unfold hi wrap64; omega
theorem add_hi1 {a b : Int} (h : 18446744073709551616 ≤ lo a + lo b) : hi (a + b) = wrap64 (wrap64 (hi a + hi b) + 1) := by
  unfold lo at h; unfold hi wrap64; omega
theorem carry_iff {a b : Int} : (lo a + lo b) % 18446744073709551616 < lo a ↔ 18446744073709551616 ≤ lo a + lo b := by
  have h1 := lo_bd a
  have h2 := lo_bd b
  omega
theorem neg_hi (a : Int) : hi (-a - 1) = -1 - hi a := by unfold hi wrap64; omega
theorem neg_lo (a : Int) : lo (-a - 1) = 18446744073709551615 - lo a := by unfold lo; omega
/-! ### order -/
def cmpW (a b : Int) : Int := if a < b then -1 else if a = b then 0 else 1
theorem lt_in {a b : Int} (ha : W128 a) (hb : W128 b) : a < b ↔ hi a < hi b ∨ (hi a = hi b ∧ lo a < lo b) := by
  have h1 := split_in ha
  have h2 := split_in hb
  have l1 := lo_bd a
  have l2 := lo_bd b
  generalize hi a = p at *
  generalize hi b = q at *
  generalize lo a = u at *
  generalize lo b = v at *
  omega
/-- Whether a number is one of 64 bits. -/
def I64w (z : Int) : Prop := -9223372036854775808 ≤ z ∧ z ≤ 9223372036854775807
instance (z : Int) : Decidable (I64w z) := by unfold I64w; infer_instance
/-- What lo says as a number with sign. -/
theorem int_of {a : Int} (h : I64w a) : wrap64 (lo a) = a := by unfold I64w at h; unfold lo wrap64; omega
theorem int_same {a : Int} (ha : W128 a) : (hi (wrap64 (lo a)) = hi a ∧ lo (wrap64 (lo a)) = lo a) ↔ I64w a := by
  unfold W128 at ha; unfold I64w hi lo wrap64; omega
/-! ### a variable of two cells -/
theorem alloc_sz (w : World) (o : Obj) : (w.alloc o).heap.size = w.heap.size + 1 := by simp
structure Var2 (w : World) (b : Nat) (x y : Value) : Prop where
  c0 : w.cell? ⟨b, 0, none⟩ = some x
  c1 : w.cell? ⟨b, 1, none⟩ = some y
  f0 : w.frozen? ⟨b, 0, none⟩ = false
  f1 : w.frozen? ⟨b, 1, none⟩ = false
theorem Var2.new (w : World) (x y : Value) (T : TypeId) : Var2 (w.alloc (.cells #[x, y] T)) w.heap.size x y := by
  constructor <;> simp
theorem Var2.lt {w : World} {b : Nat} {x y : Value} (h : Var2 w b x y) : b < w.heap.size := World.block_lt_of_cell? w _ h.c0
theorem Var2.below {w w' : World} {b B : Nat} {x y : Value} (h : Var2 w b x y) (hb : Below B w w') (hB : b < B) : Var2 w' b x y := by
  constructor
  · rw [hb.cell hB]; exact h.c0
  · rw [hb.cell hB]; exact h.c1
  · rw [hb.frozen hB]; exact h.f0
  · rw [hb.frozen hB]; exact h.f1
theorem Var2.step {w w' : World} {b : Nat} {x y : Value} (h : Var2 w b x y) (hb : Below w.heap.size w w') : Var2 w' b x y := h.below hb h.lt
theorem Var2.drew {w : World} {b : Nat} {x y : Value} (h : Var2 w b x y) : Var2 w.drew b x y := ⟨h.c0, h.c1, h.f0, h.f1⟩
theorem Var2.alloc {w : World} {b : Nat} {x y : Value} (h : Var2 w b x y) (o : Obj) : Var2 (w.alloc o) b x y := h.step ((Below.refl _ _).alloc (Nat.le_refl _) o)
theorem Var2.set {w : World} {b : Nat} {x y : Value} (h : Var2 w b x y) (x' y' : Value) : Var2 ((w.setCell ⟨b, 0, none⟩ x').setCell ⟨b, 1, none⟩ y') b x' y' := by
  constructor
  · rw [World.cell?_setCell_other _ _ _ _ (by simp), World.cell?_setCell_same _ _ _ h.c0]
  · rw [World.cell?_setCell_same _ _ _ ((World.cell?_setCell_other _ _ _ _ (by simp)).trans h.c1)]
  · rw [World.frozen?_setCell, World.frozen?_setCell]; exact h.f0
  · rw [World.frozen?_setCell, World.frozen?_setCell]; exact h.f1
theorem Var2.cast {w : World} {b : Nat} {x y x' y' : Value} (h : Var2 w b x y) (hx : x' = x) (hy : y' = y) : Var2 w b x' y' := by rw [hx, hy]; exact h
/-- Another variable stands while this one is written. -/
theorem Var2.other {w : World} {b c : Nat} {x y : Value} (h : Var2 w b x y) (hc : b ≠ c) (x' y' : Value) : Var2 ((w.setCell ⟨c, 0, none⟩ x').setCell ⟨c, 1, none⟩ y') b x y := by
  have hk : ∀ (i j : Nat), (⟨c, i, none⟩ : Addr) ≠ ⟨b, j, none⟩ := fun i j e => hc (congrArg Addr.block e).symm
  constructor
  · rw [World.cell?_setCell_other _ _ _ _ (hk _ _), World.cell?_setCell_other _ _ _ _ (hk _ _)]; exact h.c0
  · rw [World.cell?_setCell_other _ _ _ _ (hk _ _), World.cell?_setCell_other _ _ _ _ (hk _ _)]; exact h.c1
  · rw [World.frozen?_setCell, World.frozen?_setCell]; exact h.f0
  · rw [World.frozen?_setCell, World.frozen?_setCell]; exact h.f1
theorem set2_below {B : Nat} {w0 w : World} {b : Nat} (h : Below B w0 w) (hB : B ≤ b) (x y : Value) : Below B w0 ((w.setCell ⟨b, 0, none⟩ x).setCell ⟨b, 1, none⟩ y) :=
  (h.setCell (p := ⟨b, 0, none⟩) hB x).setCell (p := ⟨b, 1, none⟩) hB y
end Go.WD
