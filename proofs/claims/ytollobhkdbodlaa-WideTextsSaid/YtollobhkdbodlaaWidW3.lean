/- The walks over package wide and its reference: Neg of the reference, Compare. -/
import Derived.Test.YtollobhkdbodlaaWidW2
namespace Go.Proofs.Ytollobhkdbodlaa
open Go.RowKit Go.VB Go.WD
set_option maxRecDepth 100000 in
set_option maxHeartbeats 1000000 in
theorem rwneg_any (a : Int) (w : World) : Calls Try.prog 21 #[wd a] w (RetB (wd (-a)) w) := by
  have h2 := fun w => Lib.hid (rwadd_any (-a - 1) 1 w)
  rw [show -a - 1 + 1 = -a from by omega] at h2
  have e1 := Lib.hid (neg_hi a)
  have e2 := Lib.hid (neg_lo a)
  have hl := lo_bd a
  have ha := hi_bd a
  rw [wd_is] at h2
  rw [e1.out, e2.out, wd_is (-a), wd_one] at h2
  rw [wd_is a, wd_is (-a)]
  clear e1 e2
  generalize hi (-a) = H at *
  generalize lo (-a) = L at *
  generalize hi a = p at *
  generalize lo a = u at *
  obtain ⟨l1, l2⟩ := hl
  obtain ⟨p1, p2⟩ := ha
  have x1 := not_i64 p1 p2
  have x2 := not_u64 l1 l2
  have s1 : IntKind.i64.signed = true := rfl
  have s2 : IntKind.u64.signed = false := rfl
  go_enter Try.func21, Try.ntmps21
  go_wp2_with fail
  have hv := (Var2.new (w.alloc (.cells #[.int .i64 p, .int .u64 u] 24)) (.int .i64 0) (.int .u64 0) 24)
  have hb0 : Below w.heap.size w ((w.alloc (.cells #[.int .i64 p, .int .u64 u] 24)).alloc (.cells #[.int .i64 0, .int .u64 0] 24)) := by go_grown
  rw [alloc_sz] at hv
  refine (h2 _).out.mono ?_
  rintro e w2 ⟨rfl, hb2⟩
  have hbb2 := bel_trans hb0 hb2
  obtain ⟨k0, k1, k2, k3⟩ := hv.step hb2
  go_wp2
  refine bodyPost_ret (v := .agg #[.int .i64 H, .int .u64 L]) (by simp [results, Try.results21, go_sem, k0, k1]) rfl ?_
  exact RetB.mk rfl (set2_below hbb2 (Nat.le_succ _) _ _)
set_option maxRecDepth 100000 in
set_option maxHeartbeats 1000000 in
theorem wcmp_any (a b : Int) (w : World) (ha : W128 a) (hb : W128 b) : Calls Try.prog 22 #[wd a, wd b] w (RetB (.int .i64 (cmpW a b)) w) := by
  have hlt := lt_in ha hb
  have heq := same_in ha hb
  unfold cmpW
  rw [wd_is, wd_is]
  generalize hi a = p at *
  generalize lo a = u at *
  generalize hi b = q at *
  generalize lo b = v at *
  clear ha hb
  by_cases h1 : p < q
  · rw [if_pos (hlt.2 (.inl h1))]
    have hd : decide (p < q) = true := decide_eq_true h1
    clear hlt heq
    go_enter Try.func22, Try.ntmps22
    go_wp2
    go_ret
    exact RetB.mk rfl (by go_grown)
  by_cases h2 : q < p
  · rw [if_neg (fun h => by have := hlt.1 h; omega), if_neg (fun h => by have := heq.2 h; omega)]
    clear hlt heq
    have hd : decide (p < q) = false := decide_eq_false h1
    have hd2 : (p == q) = false := beq_eq_false_iff_ne.2 (by omega)
    go_enter Try.func22, Try.ntmps22
    go_wp2
    go_ret
    exact RetB.mk rfl (by go_grown)
  obtain rfl : p = q := by omega
  clear h1 h2
  have hd : decide (p < p) = false := decide_eq_false (Int.lt_irrefl p)
  by_cases h3 : u < v
  · rw [if_pos (hlt.2 (.inr ⟨rfl, h3⟩))]
    clear hlt heq
    go_enter Try.func22, Try.ntmps22
    go_wp2
    go_ret
    exact RetB.mk rfl (by go_grown)
  by_cases h4 : v < u
  · rw [if_neg (fun h => by have := hlt.1 h; omega), if_neg (fun h => by have := heq.2 h; omega)]
    clear hlt heq
    have hd2 : (u == v) = false := beq_eq_false_iff_ne.2 (by omega)
    go_enter Try.func22, Try.ntmps22
    go_wp2
    go_ret
    exact RetB.mk rfl (by go_grown)
  obtain rfl : u = v := by omega
  clear h3 h4
  rw [if_neg (fun h => by have := hlt.1 h; omega), if_pos (heq.1 ⟨rfl, rfl⟩)]
  clear hlt heq
  have hd3 : decide (u < u) = false := decide_eq_false (Int.lt_irrefl u)
  go_enter Try.func22, Try.ntmps22
  go_wp2
  go_ret
  exact RetB.mk rfl (by go_grown)
set_option maxRecDepth 100000 in
set_option maxHeartbeats 1000000 in
theorem rwcmp_any (a b : Int) (w : World) (ha : W128 a) (hb : W128 b) : Calls Try.prog 23 #[wd a, wd b] w (RetB (.int .i64 (cmpW a b)) w) := by
  have hlt := lt_in ha hb
  have heq := same_in ha hb
  unfold cmpW
  rw [wd_is, wd_is]
  generalize hi a = p at *
  generalize lo a = u at *
  generalize hi b = q at *
  generalize lo b = v at *
  clear ha hb
  by_cases h1 : p < q
  · rw [if_pos (hlt.2 (.inl h1))]
    have hd : decide (p < q) = true := decide_eq_true h1
    clear hlt heq
    go_enter Try.func23, Try.ntmps23
    go_wp2
    go_ret
    exact RetB.mk rfl (by go_grown)
  by_cases h2 : q < p
  · rw [if_neg (fun h => by have := hlt.1 h; omega), if_neg (fun h => by have := heq.2 h; omega)]
    clear hlt heq
    have hd : decide (p < q) = false := decide_eq_false h1
    have hd2 : (p == q) = false := beq_eq_false_iff_ne.2 (by omega)
    go_enter Try.func23, Try.ntmps23
    go_wp2
    go_ret
    exact RetB.mk rfl (by go_grown)
  obtain rfl : p = q := by omega
  clear h1 h2
  have hd : decide (p < p) = false := decide_eq_false (Int.lt_irrefl p)
  by_cases h3 : u < v
  · rw [if_pos (hlt.2 (.inr ⟨rfl, h3⟩))]
    clear hlt heq
    go_enter Try.func23, Try.ntmps23
    go_wp2
    go_ret
    exact RetB.mk rfl (by go_grown)
  by_cases h4 : v < u
  · rw [if_neg (fun h => by have := hlt.1 h; omega), if_neg (fun h => by have := heq.2 h; omega)]
    clear hlt heq
    have hd2 : (u == v) = false := beq_eq_false_iff_ne.2 (by omega)
    go_enter Try.func23, Try.ntmps23
    go_wp2
    go_ret
    exact RetB.mk rfl (by go_grown)
  obtain rfl : u = v := by omega
  clear h3 h4
  rw [if_neg (fun h => by have := hlt.1 h; omega), if_pos (heq.1 ⟨rfl, rfl⟩)]
  clear hlt heq
  have hd3 : decide (u < u) = false := decide_eq_false (Int.lt_irrefl u)
  go_enter Try.func23, Try.ntmps23
  go_wp2
  go_ret
  exact RetB.mk rfl (by go_grown)
end Go.Proofs.Ytollobhkdbodlaa
