/- The walks over package wide and its reference: Int. -/
import Derived.Test.YtollobhkdbodlaaWidW1
import Derived.BigQuiet
import Derived.Deep.RegionWith
namespace Go.WD
open Go.RowKit Go.VB
/-- What Int returns. -/
def intN (a : Int) : Int := if I64w a then a else 0
theorem wrap64_bd (x : Int) : I64w (wrap64 x) := by unfold I64w wrap64; omega
end Go.WD
namespace Go.Proofs.Ytollobhkdbodlaa
open Go.RowKit Go.VB Go.WD
set_option maxRecDepth 100000 in
set_option maxHeartbeats 1000000 in
theorem wint_any (a : Int) (w : World) (ha : W128 a) : Calls Try.prog 14 #[wd a] w (RetB (.tuple #[.int .i64 (intN a), .bool (decide (I64w a))]) w) := by
  have h1 := fun w => Lib.hid (wof_any (wrap64 (lo a)) w (wrap64_bd _))
  have hs := int_same ha
  have e0 := Lib.hid (int_of (a := a))
  have hl := lo_bd a
  have ew : IntKind.i64.wrap (lo a) = wrap64 (lo a) := by rw [IntKind.wrap_i64]; unfold wrap64; rfl
  rw [wd_is] at h1
  rw [wd_is]
  unfold intN
  clear ha
  generalize hi (wrap64 (lo a)) = P at *
  generalize lo (wrap64 (lo a)) = U at *
  generalize wrap64 (lo a) = x at *
  generalize hi a = p at *
  generalize lo a = u at *
  obtain ⟨l1, l2⟩ := hl
  have hv := Var2.new w (.int .i64 p) (.int .u64 u) 24
  by_cases hi : I64w a
  · rw [if_pos hi, decide_eq_true hi]
    obtain ⟨rfl, rfl⟩ := hs.2 hi
    have hx := Lib.hid (e0.out hi)
    clear hs e0 hi
    go_enter Try.func14, Try.ntmps14
    go_wp2_with fail
    have hb0 : Below w.heap.size w (w.alloc (.cells #[.int .i64 P, .int .u64 U] 24)).drew := by go_grown
    go_region_with (first
      | (go_at_call 13; (with_reducible refine (h1 _).out.mono ?_); rintro e w1 ⟨rfl, hb1⟩; obtain ⟨k0, k1, k2, k3⟩ := hv.drew.step hb1; have hbb := bel_trans hb0 hb1))
    all_goals go_wp2
    all_goals go_ret2
    all_goals exact RetB.mk (by rw [hx.out]; rfl) hbb
  · rw [if_neg hi, decide_eq_false hi]
    have hne : ¬ (p = P ∧ u = U) := fun h => hi (hs.1 ⟨h.1.symm, h.2.symm⟩)
    clear hs e0 hi
    go_enter Try.func14, Try.ntmps14
    go_wp2_with fail
    have hb0 : Below w.heap.size w (w.alloc (.cells #[.int .i64 p, .int .u64 u] 24)).drew := by go_grown
    by_cases hp : p = P
    · subst hp
      have hd : (u == U) = false := beq_eq_false_iff_ne.2 (fun h => hne ⟨rfl, h⟩)
      clear hne
      go_region_with (first
        | (go_at_call 13; (with_reducible refine (h1 _).out.mono ?_); rintro e w1 ⟨rfl, hb1⟩; obtain ⟨k0, k1, k2, k3⟩ := hv.drew.step hb1; have hbb := bel_trans hb0 hb1))
      all_goals go_wp2
      all_goals go_ret2
      all_goals exact RetB.mk rfl hbb
    · have hd : (p == P) = false := beq_eq_false_iff_ne.2 hp
      clear hne
      go_region_with (first
        | (go_at_call 13; (with_reducible refine (h1 _).out.mono ?_); rintro e w1 ⟨rfl, hb1⟩; obtain ⟨k0, k1, k2, k3⟩ := hv.drew.step hb1; have hbb := bel_trans hb0 hb1))
      all_goals go_wp2
      all_goals go_ret2
      all_goals exact RetB.mk rfl hbb
set_option maxRecDepth 100000 in
set_option maxHeartbeats 1000000 in
theorem rwint_any (a : Int) (w : World) (ha : W128 a) : Calls Try.prog 16 #[wd a] w (RetB (.tuple #[.int .i64 (intN a), .bool (decide (I64w a))]) w) := by
  have h1 := fun w => Lib.hid (rwof_any (wrap64 (lo a)) w (wrap64_bd _))
  have hs := int_same ha
  have e0 := Lib.hid (int_of (a := a))
  have hl := lo_bd a
  have ew : IntKind.i64.wrap (lo a) = wrap64 (lo a) := by rw [IntKind.wrap_i64]; unfold wrap64; rfl
  rw [wd_is] at h1
  rw [wd_is]
  unfold intN
  clear ha
  generalize hi (wrap64 (lo a)) = P at *
  generalize lo (wrap64 (lo a)) = U at *
  generalize wrap64 (lo a) = x at *
  generalize hi a = p at *
  generalize lo a = u at *
  obtain ⟨l1, l2⟩ := hl
  have hv := Var2.new w (.int .i64 p) (.int .u64 u) 24
  by_cases hi : I64w a
  · rw [if_pos hi, decide_eq_true hi]
    obtain ⟨rfl, rfl⟩ := hs.2 hi
    have hx := Lib.hid (e0.out hi)
    clear hs e0 hi
    go_enter Try.func16, Try.ntmps16
    go_wp2_with fail
    have hb0 : Below w.heap.size w (w.alloc (.cells #[.int .i64 P, .int .u64 U] 24)).drew := by go_grown
    go_region_with (first
      | (go_at_call 18; (with_reducible refine (h1 _).out.mono ?_); rintro e w1 ⟨rfl, hb1⟩; obtain ⟨k0, k1, k2, k3⟩ := hv.drew.step hb1; have hbb := bel_trans hb0 hb1))
    all_goals go_wp2
    all_goals go_ret2
    all_goals exact RetB.mk (by rw [hx.out]; rfl) hbb
  · rw [if_neg hi, decide_eq_false hi]
    have hne : ¬ (p = P ∧ u = U) := fun h => hi (hs.1 ⟨h.1.symm, h.2.symm⟩)
    clear hs e0 hi
    go_enter Try.func16, Try.ntmps16
    go_wp2_with fail
    have hb0 : Below w.heap.size w (w.alloc (.cells #[.int .i64 p, .int .u64 u] 24)).drew := by go_grown
    by_cases hp : p = P
    · subst hp
      have hd : (U == u) = false := beq_eq_false_iff_ne.2 (fun h => hne ⟨rfl, h.symm⟩)
      clear hne
      go_region_with (first
        | (go_at_call 18; (with_reducible refine (h1 _).out.mono ?_); rintro e w1 ⟨rfl, hb1⟩; obtain ⟨k0, k1, k2, k3⟩ := hv.drew.step hb1; have hbb := bel_trans hb0 hb1))
      all_goals go_wp2
      all_goals go_ret2
      all_goals exact RetB.mk rfl hbb
    · have hd : (P == p) = false := beq_eq_false_iff_ne.2 (fun h => hp h.symm)
      clear hne
      go_region_with (first
        | (go_at_call 18; (with_reducible refine (h1 _).out.mono ?_); rintro e w1 ⟨rfl, hb1⟩; obtain ⟨k0, k1, k2, k3⟩ := hv.drew.step hb1; have hbb := bel_trans hb0 hb1))
      all_goals go_wp2
      all_goals go_ret2
      all_goals exact RetB.mk rfl hbb
end Go.Proofs.Ytollobhkdbodlaa
