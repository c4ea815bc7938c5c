/- The walks over package wide and its reference: Of and Add. -/
import Derived.Test.YtollobhkdbodlaaWid
import Derived.Test.YtollobhkdbodlaaValV
import Derived.Handy
namespace Go.Proofs.Ytollobhkdbodlaa
open Go.RowKit Go.VB Go.WD
set_option maxRecDepth 100000 in
set_option maxHeartbeats 400000 in
theorem wof_any (n : Int) (w : World) (hn : I64w n) : Calls Try.prog 13 #[.int .i64 n] w (RetB (wd n) w) := by
  unfold I64w at hn
  have e1 := Lib.hid (hi_small hn.1 hn.2)
  have e2 : IntKind.u64.wrap n = lo n := by rw [IntKind.wrap_u64]; rfl
  have hl := lo_bd n
  rw [wd_is]
  generalize lo n = L at *
  generalize hi n = H at *
  obtain ⟨h1, h2⟩ := hn
  go_enter Try.func13, Try.ntmps13
  go_wp2
  refine bodyPost_ret (v := .agg #[.int .i64 (n / 9223372036854775808), .int .u64 L]) (by simp [results, Try.results13, go_sem]) rfl ?_
  exact RetB.mk (by rw [e1.out]) (by go_grown)
set_option maxRecDepth 100000 in
set_option maxHeartbeats 400000 in
theorem rwof_any (n : Int) (w : World) (hn : I64w n) : Calls Try.prog 18 #[.int .i64 n] w (RetB (wd n) w) := by
  unfold I64w at hn
  have e1 := Lib.hid (hi_small hn.1 hn.2)
  have e2 : IntKind.u64.wrap n = lo n := by rw [IntKind.wrap_u64]; rfl
  have hl := lo_bd n
  rw [wd_is]
  generalize lo n = L at *
  generalize hi n = H at *
  obtain ⟨h1, h2⟩ := hn
  go_enter Try.func18, Try.ntmps18
  go_wp2
  refine bodyPost_ret (v := .agg #[.int .i64 (n / 9223372036854775808), .int .u64 L]) (by simp [results, Try.results18, go_sem]) rfl ?_
  exact RetB.mk (by rw [e1.out]) (by go_grown)
set_option maxRecDepth 100000 in
set_option maxHeartbeats 400000 in
theorem wadd_any (a b : Int) (w : World) : Calls Try.prog 12 #[wd a, wd b] w (RetB (wd (a + b)) w) := by
  have hl := lo_bd a
  have hm := lo_bd b
  have ha := hi_bd a
  have hb := hi_bd b
  have es := Lib.hid (add_lo a b)
  have hc := carry_iff (a := a) (b := b)
  have hw : IntKind.u64.wrap (lo a + lo b) = lo (a + b) := by rw [IntKind.wrap_u64]; exact es.out.symm
  have hlb := lo_bd (a + b)
  by_cases hk : lo a + lo b < 18446744073709551616
  · have eh := Lib.hid (add_hi0 hk)
    have hlt : ¬ lo (a + b) < lo a := by rw [es.out]; omega
    clear hc hk es
    rw [wd_is, wd_is, wd_is]
    generalize hi (a + b) = H at *
    generalize lo (a + b) = L at *
    generalize hi a = p at *
    generalize hi b = q at *
    generalize lo a = u at *
    generalize lo b = v at *
    obtain ⟨l1, l2⟩ := hl
    obtain ⟨m1, m2⟩ := hm
    obtain ⟨n1, n2⟩ := hlb
    obtain ⟨p1, p2⟩ := ha
    obtain ⟨q1, q2⟩ := hb
    go_enter Try.func12, Try.ntmps12
    go_wp2
    refine bodyPost_ret (v := .agg #[.int .i64 (wrap64 (p + q)), .int .u64 L]) (by simp [results, Try.results12, go_sem]) rfl ?_
    exact RetB.mk (by rw [eh.out]) (by go_grown)
  · have eh := Lib.hid (add_hi1 (Int.not_lt.1 hk))
    have hlt : lo (a + b) < lo a := by rw [es.out]; omega
    clear hc hk es
    rw [wd_is, wd_is, wd_is]
    generalize hi (a + b) = H at *
    generalize lo (a + b) = L at *
    generalize hi a = p at *
    generalize hi b = q at *
    generalize lo a = u at *
    generalize lo b = v at *
    obtain ⟨l1, l2⟩ := hl
    obtain ⟨m1, m2⟩ := hm
    obtain ⟨n1, n2⟩ := hlb
    obtain ⟨p1, p2⟩ := ha
    obtain ⟨q1, q2⟩ := hb
    go_enter Try.func12, Try.ntmps12
    go_wp2
    refine bodyPost_ret (v := .agg #[.int .i64 (wrap64 (wrap64 (p + q) + 1)), .int .u64 L]) (by simp [results, Try.results12, go_sem]) rfl ?_
    exact RetB.mk (by rw [eh.out]) (by go_grown)
set_option maxRecDepth 100000 in
set_option maxHeartbeats 400000 in
theorem rwadd_any (a b : Int) (w : World) : Calls Try.prog 19 #[wd a, wd b] w (RetB (wd (a + b)) w) := by
  have hl := lo_bd a
  have hm := lo_bd b
  have ha := hi_bd a
  have hb := hi_bd b
  have es := Lib.hid (add_lo a b)
  have hc := carry_iff (a := a) (b := b)
  have hw : IntKind.u64.wrap (lo a + lo b) = lo (a + b) := by rw [IntKind.wrap_u64]; exact es.out.symm
  have hlb := lo_bd (a + b)
  by_cases hk : lo a + lo b < 18446744073709551616
  · have eh := Lib.hid (add_hi0 hk)
    have hlt : ¬ lo (a + b) < lo a := by rw [es.out]; omega
    clear hc hk es
    rw [wd_is, wd_is, wd_is]
    generalize hi (a + b) = H at *
    generalize lo (a + b) = L at *
    generalize hi a = p at *
    generalize hi b = q at *
    generalize lo a = u at *
    generalize lo b = v at *
    obtain ⟨l1, l2⟩ := hl
    obtain ⟨m1, m2⟩ := hm
    obtain ⟨n1, n2⟩ := hlb
    obtain ⟨p1, p2⟩ := ha
    obtain ⟨q1, q2⟩ := hb
    go_enter Try.func19, Try.ntmps19
    go_wp2
    refine bodyPost_ret (v := .agg #[.int .i64 (wrap64 (p + q)), .int .u64 L]) (by simp [results, Try.results19, go_sem]) rfl ?_
    exact RetB.mk (by rw [eh.out]) (by go_grown)
  · have eh := Lib.hid (add_hi1 (Int.not_lt.1 hk))
    have hlt : lo (a + b) < lo a := by rw [es.out]; omega
    clear hc hk es
    rw [wd_is, wd_is, wd_is]
    generalize hi (a + b) = H at *
    generalize lo (a + b) = L at *
    generalize hi a = p at *
    generalize hi b = q at *
    generalize lo a = u at *
    generalize lo b = v at *
    obtain ⟨l1, l2⟩ := hl
    obtain ⟨m1, m2⟩ := hm
    obtain ⟨n1, n2⟩ := hlb
    obtain ⟨p1, p2⟩ := ha
    obtain ⟨q1, q2⟩ := hb
    go_enter Try.func19, Try.ntmps19
    go_wp2
    refine bodyPost_ret (v := .agg #[.int .i64 (wrap64 (wrap64 (p + q) + 1)), .int .u64 L]) (by simp [results, Try.results19, go_sem]) rfl ?_
    exact RetB.mk (by rw [eh.out]) (by go_grown)
end Go.Proofs.Ytollobhkdbodlaa
