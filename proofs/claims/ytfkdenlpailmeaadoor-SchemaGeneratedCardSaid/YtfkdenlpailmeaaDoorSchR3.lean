/- The walk over the reference's ReadColumn. -/
import Derived.Test.YtfkdenlpailmeaaDoorSchR2
namespace Go.SC
open Go.RowKit Go.VB Go.VL
/-- What ReadColumn leaves. -/
def PCW (ws : List (List UInt8)) (w : World) : Ending → World → Prop := fun e w' => Below w.heap.size w w' ∧ ∃ (c : Col) (b : Bool), e = .returned (.tuple #[c.val, .bool b]) ∧
  (b = true → okC c ∧ ws = colW c) ∧ (b = false → ¬ ∃ c, okC c ∧ ws = colW c) ∧ (c.nu = true → 2 < ws.length ∧ ws.getD (ws.length - 1) [] = nulW)
theorem PCW.mk' {ws : List (List UInt8)} {w w' : World} {x : Value} (nm : ByteArray) (ty sc : Int) (nu b : Bool) (hx : x = .tuple #[.agg #[.string nm, .int .i64 ty, .int .i64 sc, .bool nu], .bool b])
    (h1 : b = true → okC ⟨nm, ty, sc, nu⟩ ∧ ws = colW ⟨nm, ty, sc, nu⟩) (h2 : b = false → ¬ ∃ c, okC c ∧ ws = colW c) (h3 : nu = true → 2 < ws.length ∧ ws.getD (ws.length - 1) [] = nulW) (hb : Below w.heap.size w w') : PCW ws w (.returned x) w' :=
  ⟨hb, ⟨nm, ty, sc, nu⟩, b, by rw [hx]; rfl, h1, h2, h3⟩
/-- The cells of a list of texts, told at every later world. -/
theorem RdS.cells {w : World} {B : Nat} {ws : List (List UInt8)} {A : Option Addr} {n c : Nat} (h : RdS w B (.slice A n c) ws) (h1 : 1 ≤ ws.length) : ∃ ad, A = some ad ∧ n = ws.length ∧ ws.length ≤ c ∧ c ≤ maxLen ∧ ad.block < B ∧ ∀ i, i < ws.length → w.cell? (ad.add i) = some (.string (str (ws.getD i []))) := by
  obtain ⟨A', c', hv, hc, hm, hr⟩ := h
  obtain ⟨rfl, rfl, rfl⟩ : A = A' ∧ n = ws.length ∧ c = c' := by injection hv with a b c; exact ⟨a, b, c⟩
  obtain ⟨ad, h2, h3, h4⟩ := hr 0 (by omega)
  refine ⟨ad, h2, rfl, hc, hm, h3, fun i hi => ?_⟩
  obtain ⟨ad', e2, _, e4⟩ := hr i hi
  rw [h2] at e2
  obtain rfl := Option.some.inj e2
  exact e4
theorem RdS.front {w : World} {B : Nat} {ws : List (List UInt8)} {ad : Addr} {m c : Nat} (hl : m + 1 = ws.length) (hc : ws.length ≤ c) (hm : c ≤ maxLen) (hB : ad.block < B) (h : ∀ i, i < ws.length → w.cell? (ad.add i) = some (.string (str (ws.getD i [])))) :
    RdS w B (.slice (some ad) m c) (ws.take m) := by
  have hlen : (ws.take m).length = m := by rw [List.length_take]; omega
  refine ⟨some ad, c, by rw [hlen], by omega, hm, fun i hi => ⟨ad, rfl, hB, ?_⟩⟩
  rw [hlen] at hi
  rw [h i (by omega), List.getD_eq_getElem?_getD, List.getD_eq_getElem?_getD, List.getElem?_take_of_lt hi]
theorem at_k (a : Addr) {k : Nat} (hk : k ≠ 0) : a.add k = ⟨a.block, a.off + k, none⟩ := by unfold Addr.add; rw [if_neg hk]
theorem at_0 (a : Addr) : a.add 0 = a := by unfold Addr.add; rw [if_pos rfl]
theorem plain_len {c : Col} {ws : List (List UInt8)} (he : ws = colB c) : ws.length = if c.ty = 5 then 3 else 2 := by rw [he]; exact colB_len c
end Go.SC
namespace Go.Proofs.YtfkdenlpailmeaaDoor
open Go.RowKit Go.VB Go.VL Go.SC
set_option linter.constructorNameAsVariable false
end Go.Proofs.YtfkdenlpailmeaaDoor
