/- The walks over keep's Same at columns and SameSchema, over the law's parses. -/
import Derived.Test.YtfkdenlpailmeaaDoorSchR4
import Derived.Test.YtfkdenlpailmeaaDoorSchA
import Derived.BigQuiet
namespace Go.Proofs.YtfkdenlpailmeaaDoor
open Go.RowKit Go.VB Go.VL Go.SC
set_option linter.constructorNameAsVariable false
set_option maxRecDepth 100000 in
set_option maxHeartbeats 2000000 in
theorem sameC_eq (x y : Value) (cs : List Col) (B : Nat) (w : World) (hx : RdC w B x cs) (hy : RdC w B y cs) (hB : B ≤ w.heap.size) :
    Calls Tryd.prog 31 #[x, y] w (RetB (.bool true) w) := by
  obtain ⟨A, c, rfl, hc1, hc2, hx'⟩ := id hx
  obtain ⟨A', c', rfl, hd1, hd2, hy'⟩ := id hy
  clear hx' hy'
  unfold maxLen at hc2 hd2
  have HX := Lib.hid hx; have HY := Lib.hid hy; clear hx hy
  go_enter Tryd.func31, Tryd.ntmps31
  go_wp2
  go_loopw [4, 5, 13] (fun r _ i wr => ∃ j : Nat, r = .bool false ∧ i = .int .i64 j ∧ j ≤ cs.length ∧ Below w.heap.size w wr) (fun _ _ i _ => cs.length - (intOf i).toNat)
  case atStart => exact ⟨0, rfl, rfl, Nat.zero_le _, Below.refl _ _⟩
  case round =>
    obtain ⟨j, rfl, rfl, hj, hbel⟩ := hrel
    by_cases hlt : j < cs.length
    · obtain ⟨_, _, hv1, _, _, hcx⟩ := HX.out.below (hbel.mono hB)
      cases hv1
      obtain ⟨ad, rfl, _, ⟨x0, x1, x2, x3⟩⟩ := hcx j hlt
      obtain ⟨_, _, hv2, _, _, hcy⟩ := HY.out.below (hbel.mono hB)
      cases hv2
      obtain ⟨ad', rfl, _, ⟨y0, y1, y2, y3⟩⟩ := hcy j hlt
      clear hcx hcy
      generalize cs.getD j col0 = V at *
      obtain ⟨nm, ty, sc, nu⟩ := V
      simp only at x0 x1 x2 x3 y0 y1 y2 y3
      go_wp2_with fail
      go_quiet (fail)
      go_wp2_with fail
      go_roundw
      case rel => exact ⟨j + 1, rfl, by go_num, hlt, Go.below_drewN hbel nq⟩
      case measure => simp [intOf] <;> omega
    · go_wp2
      go_ret
      exact RetB.mk rfl hbel
set_option maxRecDepth 100000 in
set_option maxHeartbeats 2000000 in
theorem sameS_eq (x y : Value) (key : Int) (cs : List Col) (w : World) (hx : RdC w w.heap.size x cs) (hy : RdC w w.heap.size y cs) :
    Calls Tryd.prog 18 #[.agg #[x, .int .i64 key], .agg #[y, .int .i64 key]] w (RetB (.bool true) w) := by
  have hb : Below w.heap.size w ((w.alloc (.cells #[x, .int .i64 key] 24)).alloc (.cells #[y, .int .i64 key] 24)) := ((Below.refl _ _).alloc (Nat.le_refl _) _).alloc (by simp) _
  have HS := Lib.hid (sameC_eq x y cs w.heap.size _ (hx.below hb) (hy.below hb) hb.size)
  have e : (key == key) = true := beq_self_eq_true _
  obtain ⟨A, c, rfl, _⟩ := hx
  obtain ⟨A', c', rfl, _⟩ := hy
  go_enter Tryd.func18, Tryd.ntmps18
  go_wp2_with fail
  refine HS.out.mono ?_
  rintro e w1 ⟨rfl, hb1⟩
  go_wp2_with fail
  go_ret
  exact RetB.mk rfl (hb.trans (hb1.mono hb.size))
end Go.Proofs.YtfkdenlpailmeaaDoor
