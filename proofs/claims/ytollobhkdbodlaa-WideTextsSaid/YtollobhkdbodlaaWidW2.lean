/- The walks over package wide and its reference: Neg, Compare, Int. -/
import Derived.Test.YtollobhkdbodlaaWidW1
import Derived.Deep.RegionWith
import Derived.Laws.BitsAllLaws
namespace Go.WD
open Go.RowKit
theorem not_i64 {p : Int} (h1 : -9223372036854775808 ≤ p) (h2 : p ≤ 9223372036854775807) : bits .xor .i64 (-1) p = -1 - p := by
  show IntKind.i64.wrap ((BitVec.ofInt 64 (-1) ^^^ BitVec.ofInt 64 p).toNat : Int) = _
  rw [show BitVec.ofInt 64 (-1) = BitVec.allOnes 64 from by decide, BitVec.allOnes_xor, BitVec.toNat_not, BitVec.toNat_ofInt]
  simp [IntKind.wrap, IntKind.bits, IntKind.signed]
  omega
theorem ones64 (b : Nat) (hb : b < 2 ^ 64) : (2 ^ 64 - 1) ^^^ b = 2 ^ 64 - 1 - b := by
  apply Nat.eq_of_testBit_eq
  intro i
  rw [Nat.testBit_xor, Nat.testBit_two_pow_sub_one, show 2 ^ 64 - 1 - b = 2 ^ 64 - (b + 1) by omega, Nat.testBit_two_pow_sub_succ hb]
  by_cases hi : i < 64
  · simp [hi]
  · have : b.testBit i = false := Nat.testBit_lt_two_pow (Nat.lt_of_lt_of_le hb (Nat.pow_le_pow_right (by decide) (by omega)))
    simp [hi, this]
theorem not_u64 {u : Int} (h1 : 0 ≤ u) (h2 : u < 18446744073709551616) : bits .xor .u64 IntKind.u64.max u = 18446744073709551615 - u := by
  obtain ⟨A, rfl⟩ := Int.eq_ofNat_of_zero_le h1
  have h := u64_xor_nat 18446744073709551615 A (by omega) (by omega)
  rw [show (18446744073709551615 : Nat) ^^^ A = 18446744073709551615 - A from ones64 A (by omega)] at h
  refine Eq.trans h ?_
  omega
end Go.WD
namespace Go.Proofs.Ytollobhkdbodlaa
open Go.RowKit Go.VB Go.WD
set_option maxRecDepth 100000 in
set_option maxHeartbeats 1000000 in
theorem wneg_any (a : Int) (w : World) : Calls Try.prog 20 #[wd a] w (RetB (wd (-a)) w) := by
  have h1 := fun w => Lib.hid (wof_any 1 w (by unfold I64w; omega))
  have h2 := fun w => Lib.hid (wadd_any (-a - 1) 1 w)
  rw [show -a - 1 + 1 = -a from by omega] at h2
  have e1 := Lib.hid (neg_hi a)
  have e2 := Lib.hid (neg_lo a)
  have hl := lo_bd a
  have ha := hi_bd a
  rw [wd_is] at h2
  rw [e1.out, e2.out, wd_is (-a)] at h2
  rw [wd_is a, wd_is (-a)]
  clear e1 e2
  generalize hi (-a) = H at *
  generalize lo (-a) = L at *
  generalize hi a = p at *
  generalize lo a = u at *
  obtain ⟨l1, l2⟩ := hl
  obtain ⟨p1, p2⟩ := ha
  have x1 := not_i64 p1 p2
  have x2 := not_u64 l1 l2
  have s1 : IntKind.i64.signed = true := rfl
  have s2 : IntKind.u64.signed = false := rfl
  go_enter Try.func20, Try.ntmps20
  go_wp2_with fail
  have hv := (Var2.new (w.alloc (.cells #[.int .i64 p, .int .u64 u] 24)) (.int .i64 0) (.int .u64 0) 24).drew
  have hb0 : Below w.heap.size w ((w.alloc (.cells #[.int .i64 p, .int .u64 u] 24)).alloc (.cells #[.int .i64 0, .int .u64 0] 24)).drew := by go_grown
  rw [alloc_sz] at hv
  have hp := ((Var2.new w (.int .i64 p) (.int .u64 u) 24).alloc (.cells #[.int .i64 0, .int .u64 0] 24)).drew
  go_region_with (first
    | (go_at_call 13; (with_reducible refine (h1 _).out.mono ?_); rintro e w1 ⟨rfl, hb1⟩; have hv1 := hv.step hb1; obtain ⟨m0, m1, m2, m3⟩ := hp.step hb1; have hbb1 := bel_trans hb0 hb1)
    | (go_at_call 12; (with_reducible refine (h2 _).out.mono ?_); rintro e w2 ⟨rfl, hb2⟩; have hv2 := hv1.step hb2; have hbb2 := bel_trans hbb1 hb2; obtain ⟨k0, k1, k2, k3⟩ := hv2))
  all_goals go_wp2
  all_goals refine bodyPost_ret (v := .agg #[.int .i64 H, .int .u64 L]) (by simp [results, Try.results20, go_sem, k0, k1]) rfl ?_
  all_goals exact RetB.mk rfl (set2_below hbb2 (Nat.le_succ _) _ _)
end Go.Proofs.Ytollobhkdbodlaa
