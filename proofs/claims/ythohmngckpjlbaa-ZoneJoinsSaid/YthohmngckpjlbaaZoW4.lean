/- The walks over package zone's Check: the parts. -/
import Derived.Test.YthohmngckpjlbaaZoW1
import Derived.Test.YthohmngckpjlbaaConfl
namespace Go.ZN
open Go.RowKit Go.VB Go.VS Go.VL Go.CK
theorem chk_zero (ty : Int) (nu : Bool) : chk ty nu false 0 ⟨#[]⟩ = if okT ty then 0 else 1 := by
  cases hT : okT ty with
  | false => rw [chk_ty hT]; rfl
  | true =>
    rw [chk_val hT, if_neg (by rintro (⟨_, h⟩ | ⟨_, h⟩) <;> exact h rfl)]
    have h5 := okT_five hT
    rcases h5 with rfl | rfl | rfl | rfl | rfl <;> decide
/-- Whether the numbers of rows and nulls can be those of a list. -/
def cnts (nu : Bool) (rows nulls : Int) : Bool := decide (¬ (0 < nulls ∧ nu = false) ∧ 0 ≤ nulls ∧ nulls ≤ rows ∧ rows ≤ 4096)
/-- Whether a value is valid and not null. -/
def prs (ty : Int) (nu : Bool) (x : Vl) : Bool := !x.nu && (chkV ty nu x == 0)
theorem zchk_parts (ty : Int) (nu : Bool) (z : Zn) : zchk ty nu z = (okT ty && (cnts nu z.rows z.nulls && bdok ty nu (z.rows - z.nulls) z.mn z.mx)) := by
  by_cases h : okT ty = false ∨ z.nulls < 0 ∨ z.rows < z.nulls ∨ 4096 < z.rows ∨ (0 < z.nulls ∧ nu = false)
  · rw [zchk_bad h]
    rcases h with h | h
    · rw [h]; rfl
    · have : cnts nu z.rows z.nulls = false := by
        refine decide_eq_false ?_
        rintro ⟨h1, h2, h3, h4⟩
        rcases h with h | h | h | h
        · omega
        · omega
        · omega
        · exact h1 h
      rw [this]; cases okT ty <;> rfl
  · rw [zchk_bds h]
    have h1 : okT ty = true := by
      cases hT : okT ty with
      | true => rfl
      | false => exact absurd (.inl hT) h
    have h2 : cnts nu z.rows z.nulls = true := by
      refine decide_eq_true ⟨fun hh => h (.inr (.inr (.inr (.inr hh)))), ?_, ?_, ?_⟩
      · exact Int.not_lt.1 fun hh => h (.inr (.inl hh))
      · exact Int.not_lt.1 fun hh => h (.inr (.inr (.inl hh)))
      · exact Int.not_lt.1 fun hh => h (.inr (.inr (.inr (.inl hh))))
    rw [h1, h2]; rfl
theorem veq_ways (b : Bool) (n : Int) (s : ByteArray) : (b = false ∧ veq ⟨b, n, s⟩ nulV = false) ∨ (b = true ∧ ¬ n = 0 ∧ veq ⟨b, n, s⟩ nulV = false) ∨ (b = true ∧ n = 0 ∧ s.toList.isEmpty = false ∧ veq ⟨b, n, s⟩ nulV = false) ∨ (b = true ∧ n = 0 ∧ s = ⟨#[]⟩) := by
  cases b with
  | false => exact .inl ⟨rfl, rfl⟩
  | true =>
    by_cases hn : n = 0
    · by_cases hs : s.size = 0
      · exact .inr (.inr (.inr ⟨rfl, hn, s_empty hs⟩))
      · refine .inr (.inr (.inl ⟨rfl, hn, s_full hs, ?_⟩))
        cases hv : veq ⟨true, n, s⟩ nulV with
        | false => rfl
        | true =>
          have := veq_iff.1 hv
          have e : s = ⟨#[]⟩ := congrArg Vl.s this
          rw [e] at hs; exact absurd rfl hs
    · refine .inr (.inl ⟨rfl, hn, ?_⟩)
      cases hv : veq ⟨true, n, s⟩ nulV with
      | false => rfl
      | true => exact absurd (congrArg Vl.n (veq_iff.1 hv)) hn
end Go.ZN
namespace Go.Proofs.Ythohmngckpjlbaa
open Go.RowKit Go.VB Go.VL Go.VS Go.ZN Go.CK
set_option linter.constructorNameAsVariable false
set_option maxRecDepth 100000 in
set_option maxHeartbeats 400000 in
theorem hasT_any (nm : ByteArray) (ty sc : Int) (nu : Bool) (w : World) : Calls Try.prog 34 #[(.agg #[.string nm, .int .i64 ty, .int .i64 sc, .bool nu])] w (RetB (.bool (okT ty)) w) := by
  have H := fun w => Lib.hid (chk_any nm ty sc nu false 0 ⟨#[]⟩ w)
  rw [chk_zero] at H
  cases hT : okT ty
  all_goals
    rw [hT] at H
    clear hT
    go_enter Try.func34, Try.ntmps34
    go_wp2_with fail
    (with_reducible refine (H _).out.mono ?_); rintro e w1 ⟨rfl, hb⟩
    have hB := bel_trans (show Below w.heap.size w _ from by go_grown) hb
    go_wp2
    go_ret
    exact RetB.mk rfl hB
set_option maxRecDepth 100000 in
set_option maxHeartbeats 400000 in
theorem isPres_any (nm : ByteArray) (ty sc : Int) (nu : Bool) (b : Bool) (n : Int) (s : ByteArray) (w : World) : Calls Try.prog 52 #[(.agg #[.string nm, .int .i64 ty, .int .i64 sc, .bool nu]), (.agg #[.bool b, .int .i64 n, .string s])] w (RetB (.bool (prs ty nu ⟨b, n, s⟩)) w) := by
  cases b with
  | true =>
    go_enter Try.func52, Try.ntmps52
    go_wp2
    go_ret
    exact RetB.mk rfl (by go_grown)
  | false =>
    have H := fun w => Lib.hid (chk_any nm ty sc nu false n s w)
    have hp : prs ty nu ⟨false, n, s⟩ = (chk ty nu false n s == 0) := rfl
    rw [hp]; clear hp
    generalize chk ty nu false n s = c at *
    by_cases hc : c = 0
    · subst hc
      go_enter Try.func52, Try.ntmps52
      go_wp2_with fail
      (with_reducible refine (H _).out.mono ?_); rintro e w1 ⟨rfl, hb⟩
      have hB := bel_trans (show Below w.heap.size w _ from by go_grown) hb
      go_wp2
      go_ret
      exact RetB.mk rfl hB
    · have e1 : (c == 0) = false := beq_eq_false_iff_ne.2 hc
      have e2 : ((c : Int) == 0) = false := ieq_f (by omega)
      rw [e1]
      clear e1
      go_enter Try.func52, Try.ntmps52
      go_wp2_with fail
      (with_reducible refine (H _).out.mono ?_); rintro e w1 ⟨rfl, hb⟩
      have hB := bel_trans (show Below w.heap.size w _ from by go_grown) hb
      go_wp2
      go_ret
      exact RetB.mk rfl hB
set_option maxRecDepth 100000 in
set_option maxHeartbeats 1000000 in
theorem counts_any (nm : ByteArray) (ty sc : Int) (nu : Bool) (rows nulls : Int) (mb : Bool) (mi : Int) (ms : ByteArray) (xb : Bool) (xi : Int) (xs : ByteArray) (w : World) :
    Calls Try.prog 35 #[(.agg #[.string nm, .int .i64 ty, .int .i64 sc, .bool nu]), (.agg #[.int .i64 rows, .int .i64 nulls, .bool mb, .int .i64 mi, .string ms, .bool xb, .int .i64 xi, .string xs])] w (RetB (.bool (cnts nu rows nulls)) w) := by
  have hw : (0 < nulls ∧ nu = false ∧ cnts nu rows nulls = false) ∨ (nulls < 0 ∧ cnts nu rows nulls = false) ∨ ((0 < nulls ∧ nu = true ∨ nulls = 0) ∧ rows < nulls ∧ cnts nu rows nulls = false) ∨ ((0 < nulls ∧ nu = true ∨ nulls = 0) ∧ nulls ≤ rows ∧ 4096 < rows ∧ cnts nu rows nulls = false) ∨ ((0 < nulls ∧ nu = true ∨ nulls = 0) ∧ nulls ≤ rows ∧ rows ≤ 4096 ∧ cnts nu rows nulls = true) := by
    by_cases h1 : 0 < nulls ∧ nu = false
    · exact .inl ⟨h1.1, h1.2, decide_eq_false fun h => h.1 h1⟩
    · by_cases h2 : nulls < 0
      · exact .inr (.inl ⟨h2, decide_eq_false fun h => by omega⟩)
      · have h3 : 0 < nulls ∧ nu = true ∨ nulls = 0 := by
          by_cases h0 : nulls = 0
          · exact .inr h0
          · left; refine ⟨by omega, ?_⟩
            cases hn : nu with
            | true => rfl
            | false => exact absurd ⟨by omega, hn⟩ h1
        by_cases h4 : rows < nulls
        · exact .inr (.inr (.inl ⟨h3, h4, decide_eq_false fun h => by omega⟩))
        · by_cases h5 : 4096 < rows
          · exact .inr (.inr (.inr (.inl ⟨h3, by omega, h5, decide_eq_false fun h => by omega⟩)))
          · exact .inr (.inr (.inr (.inr ⟨h3, by omega, by omega, decide_eq_true ⟨h1, by omega, by omega, by omega⟩⟩)))
  rcases hw with ⟨h1, rfl, hc⟩ | ⟨h1, hc⟩ | ⟨⟨h1, rfl⟩ | rfl, h2, hc⟩ | ⟨⟨h1, rfl⟩ | rfl, h2, h3, hc⟩ | ⟨⟨h1, rfl⟩ | rfl, h2, h3, hc⟩
  all_goals
    rw [hc]; clear hc
    go_enter Try.func35, Try.ntmps35
    go_wp2
    go_ret
    exact RetB.mk (by first | rfl | simp <;> omega) (by go_grown)
end Go.Proofs.Ythohmngckpjlbaa
