/- A statement of layer 4 on the day after a day, out of the contracts. -/
import Derived.Test.YtgabghgjldbfhaaDateLaw2
namespace Go.Proofs.Ytgabghgjldbfhaa
open Go.RowKit Go.VB Go.DT Go.ChangeShapes Go.WideShapes Go.ChangeAt
open Go.ChangeMaps (open_string)
set_option linter.constructorNameAsVariable false
set_option maxRecDepth 100000 in
set_option maxHeartbeats 4000000 in
theorem dateNext_lifted (os : Os) (started : os.Started) (H : Type) (enc : TypeId × Value → H) :
    ReturnsInHanded {} Try.checked os 8 .any (Rows.dateNextSpec.pre6 enc Try.prog Try.f8 Rows.dateNextRow.domain false) (Rows.dateNextSpec.post enc Try.prog Try.f8 false true false false) := by
  refine law_lifted (C := Try.checked) (tb := 4) started Try.own Try.laidOut (by kernel_rfl) Try.func8
    (ChangeSpec.witness6 (enc := enc) (C := Try.checked) false ⟨#[], #[.int .i64 0], []⟩ 8 (by kernel_rfl) (by kernel_rfl) (by kernel_rfl) (by kernel_rfl))
    rfl rfl Try.underlying4 (by kernel_rfl) (fun ds h => ?_) (fun W base args ds p hval0 hA0 hsz0 hlt => ?_)
  · have h' : ds.length = Try.f8.params.toList.length := h
    rw [Try.params8] at h'
    match ds, h' with
    | [_], _ => rfl
  · have hval : ∀ (j : Nat) t v, Try.f8.params[j]? = some t → args[j]? = some v → Value.okWide Try.prog W .any base t v := hval0
    have hA : DataW.TrodAll enc Try.prog W 0 (fun _ => true) true Try.f8.params.toList args.toList ds p := hA0
    have hsz : (DataW.weightsEach Try.prog Try.f8.params.toList ds).all (· ≤ reachBytes) = true := hsz0
    rw [Try.params8] at hA hval hsz
    clear hA0 hval0 hsz0
    obtain ⟨v0, vs0, d0, ds0, p0, q0, hargs, rfl, rfl, h0, r0⟩ := trodAll_cons hA
    obtain ⟨rfl, rfl, rfl⟩ := trodAll_nil r0
    obtain rfl : args = #[v0] := by cases args; simp_all
    obtain ⟨n, rfl, rfl, rfl, wn⟩ := open_int Try.underlying3 (hval 0 3 v0 rfl rfl) h0
    change Calls Try.prog 8 #[.int .i64 n] W (RetB (.bool true) W)
    have ha := Lib.hid (awake4_any W)
    have hs := Lib.hid (day_any n W wn)
    have hb := dayN_bd n
    generalize dayN n = k at *
    by_cases hl : k = 2932896
    · subst hl
      go_enter Try.func8, Try.ntmps8
      go_wp2_with (first
        | (go_at_call 19; refine hs.out.mono ?_; rintro e w' ⟨rfl, rfl⟩)
        | (go_at_call 15; refine ha.out.mono ?_; rintro e w' ⟨rfl, rfl⟩))
      go_ret
      exact RetB.mk rfl (Below.refl _ _)
    · have hq : (k == 2932896) = false := beq_eq_false_iff_ne.2 hl
      obtain ⟨y, m, d, hok, hn⟩ := day_of k hb.1 hb.2
      have H1 := Lib.hid (civil_at k y m d W hok hn)
      have hk : k < 2932896 := by omega
      have hx := next hok (by omega)
      obtain ⟨y1, y2, m1, m2, d1, d2⟩ := hok
      have hdi := dim_bd y m
      have hd31 : d ≤ 31 := by omega
      clear d2 hdi
      rcases hx with ⟨ho2, hn2⟩ | ⟨ho2, hn2⟩ | ⟨ho2, hn2, rfl, rfl⟩
      · have H2 := Lib.hid (civil_at (k + 1) _ _ _ W ho2 (by omega))
        clear ho2 hn2 hn hl
        go_enter Try.func8, Try.ntmps8
        go_wp2_with (first
          | (go_at_call 19; refine hs.out.mono ?_; rintro e w' ⟨rfl, rfl⟩)
          | (go_at_call 13; (with_reducible refine H1.out.mono ?_); rintro e w' ⟨rfl, rfl⟩)
          | (go_at_call 13; (with_reducible refine H2.out.mono ?_); rintro e w' ⟨rfl, rfl⟩)
          | (go_at_call 15; refine ha.out.mono ?_; rintro e w' ⟨rfl, rfl⟩))
        all_goals (
          go_ret
          exact RetB.mk rfl (Below.refl _ _))
      · have H2 := Lib.hid (civil_at (k + 1) _ _ _ W ho2 (by omega))
        have hmm : ((m + 1 : Int) == m) = false := beq_eq_false_iff_ne.2 (by omega)
        clear ho2 hn2 hn hl
        go_enter Try.func8, Try.ntmps8
        go_wp2_with (first
          | (go_at_call 19; refine hs.out.mono ?_; rintro e w' ⟨rfl, rfl⟩)
          | (go_at_call 13; (with_reducible refine H1.out.mono ?_); rintro e w' ⟨rfl, rfl⟩)
          | (go_at_call 13; (with_reducible refine H2.out.mono ?_); rintro e w' ⟨rfl, rfl⟩)
          | (go_at_call 15; refine ha.out.mono ?_; rintro e w' ⟨rfl, rfl⟩))
        all_goals (
          go_ret
          exact RetB.mk rfl (Below.refl _ _))
      · have H2 := Lib.hid (civil_at (k + 1) _ _ _ W ho2 (by omega))
        have hyy : ((y + 1 : Int) == y) = false := beq_eq_false_iff_ne.2 (by omega)
        clear ho2 hn2 hn hl
        go_enter Try.func8, Try.ntmps8
        go_wp2_with (first
          | (go_at_call 19; refine hs.out.mono ?_; rintro e w' ⟨rfl, rfl⟩)
          | (go_at_call 13; (with_reducible refine H1.out.mono ?_); rintro e w' ⟨rfl, rfl⟩)
          | (go_at_call 13; (with_reducible refine H2.out.mono ?_); rintro e w' ⟨rfl, rfl⟩)
          | (go_at_call 15; refine ha.out.mono ?_; rintro e w' ⟨rfl, rfl⟩))
        all_goals (
          go_ret
          exact RetB.mk rfl (Below.refl _ _))
theorem dateNext_holds : Rows.DateNextSaid :=
  OpenClaim.holds_of_wide 8 Try.f8 rfl rfl rfl rfl rfl rfl rfl ⟨rfl, rfl, rfl, rfl, rfl⟩ rfl rfl rfl rfl rfl (by kernel_rfl) Try.func8 (by kernel_rfl)
    (of_decide_eq_true (by kernel_rfl)) (by unfold Func.isWrapper; first | (rw [if_pos (by decide +kernel)]; kernel_rfl) | (rw [if_neg (by decide +kernel)]; exact ⟨rfl, rfl⟩))
    (fun os started H enc _ => dateNext_lifted os started H enc)
end Go.Proofs.Ytgabghgjldbfhaa
