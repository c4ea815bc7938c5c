/- Statements of layer 4 on the days of numbers, each out of the contracts. -/
import Derived.Test.YtgabghgjldbfhaaDateLaw
namespace Go.DT
theorem exists_day (k : Nat) (hk : k ≤ 3652058) : ∃ y m d : Int, okD y m d ∧ num y m d = -719162 + k := by
  induction k with
  | zero => exact ⟨1, 1, 1, by decide, by decide⟩
  | succ k ih =>
    obtain ⟨y, m, d, hok, hn⟩ := ih (by omega)
    rcases next hok (by omega) with ⟨h1, h2⟩ | ⟨h1, h2⟩ | ⟨h1, h2, _⟩
    · exact ⟨_, _, _, h1, by omega⟩
    · exact ⟨_, _, _, h1, by omega⟩
    · exact ⟨_, _, _, h1, by omega⟩
theorem day_of (n : Int) (h0 : -719162 ≤ n) (h1 : n ≤ 2932896) : ∃ y m d : Int, okD y m d ∧ num y m d = n := by
  obtain ⟨y, m, d, h, e⟩ := exists_day (n + 719162).toNat (by omega)
  exact ⟨y, m, d, h, by omega⟩
end Go.DT
namespace Go.Proofs.Ytgabghgjldbfhaa
open Go.RowKit Go.VB Go.DT Go.ChangeShapes Go.WideShapes Go.ChangeAt
open Go.ChangeMaps (open_string)
set_option linter.constructorNameAsVariable false
theorem RetC.at {n : Int} {w : World} {y m d : Int} (hok : okD y m d) (hn : num y m d = n) {e : Ending} {w' : World} (h : RetC n w e w') : Ret (.tuple #[.int .i64 y, .int .i64 m, .int .i64 d, .int .i64 0]) w e w' := by
  obtain ⟨hw, y', m', d', he, hok', hn'⟩ := h
  obtain ⟨rfl, rfl, rfl⟩ := num_inj hok' hok (hn'.trans hn.symm)
  exact ⟨he, hw⟩
/-- The code of Civil. -/
def cc (n : Int) : Nat := if -719162 ≤ n ∧ n ≤ 2932896 then 0 else 4
theorem civ_both (n : Int) (w : World) : ∃ y m d : Int, ∃ c : Nat,
    Calls Try.prog 13 #[.int .i64 n] w (Ret (.tuple #[.int .i64 y, .int .i64 m, .int .i64 d, .int .i64 (c : Int)]) w)
    ∧ Calls Try.prog 20 #[.int .i64 n] w (Ret (.tuple #[.int .i64 y, .int .i64 m, .int .i64 d, .int .i64 (c : Int)]) w)
    := by
  by_cases h : -719162 ≤ n ∧ n ≤ 2932896
  · obtain ⟨y, m, d, hok, hn⟩ := day_of n h.1 h.2
    exact ⟨y, m, d, 0, (civil_any n w h.1 h.2).mono fun _ _ h => RetC.at hok hn h
      , (rcivil_any n w h.1 h.2).mono fun _ _ h => RetC.at hok hn h
      ⟩
  · have h' : n < -719162 ∨ 2932896 < n := by omega
    exact ⟨0, 0, 0, 4, civil_out n w h'
      , rcivil_out n w h'
      ⟩
theorem civil_at (n : Int) (y m d : Int) (w : World) (hok : okD y m d) (hn : num y m d = n) : Calls Try.prog 13 #[.int .i64 n] w (Ret (.tuple #[.int .i64 y, .int .i64 m, .int .i64 d, .int .i64 0]) w) := by
  have hb := num_bd hok
  exact (civil_any n w (by omega) (by omega)).mono fun _ _ h => RetC.at hok hn h
theorem wf_wrap64 (x : Int) : (Lit.int .i64 (wrap64 x)).wf = true := by
  simp [Lit.wf, IntKind.min, IntKind.max, IntKind.signed, IntKind.bits]
  unfold wrap64
  omega

set_option maxRecDepth 100000 in
set_option maxHeartbeats 4000000 in
theorem dateCivil_lifted (os : Os) (started : os.Started) (H : Type) (enc : TypeId × Value → H) :
    ReturnsInHanded {} Try.checked os 6 .any (Rows.dateCivilSpec.pre6 enc Try.prog Try.f6 Rows.dateCivilRow.domain false) (Rows.dateCivilSpec.post enc Try.prog Try.f6 false true false false) := by
  refine law_lifted (C := Try.checked) (tb := 4) started Try.own Try.laidOut (by kernel_rfl) Try.func6
    (ChangeSpec.witness6 (enc := enc) (C := Try.checked) false ⟨#[], #[.int .i64 0, .bool false], []⟩ 8 (by kernel_rfl) (by kernel_rfl) (by kernel_rfl) (by kernel_rfl))
    rfl rfl Try.underlying4 (by kernel_rfl) (fun ds h => ?_) (fun W base args ds p hval0 hA0 hsz0 hlt => ?_)
  · have h' : ds.length = Try.f6.params.toList.length := h
    rw [Try.params6] at h'
    match ds, h' with
    | [_, _], _ => rfl
  · have hval : ∀ (j : Nat) t v, Try.f6.params[j]? = some t → args[j]? = some v → Value.okWide Try.prog W .any base t v := hval0
    have hA : DataW.TrodAll enc Try.prog W 0 (fun _ => true) true Try.f6.params.toList args.toList ds p := hA0
    have hsz : (DataW.weightsEach Try.prog Try.f6.params.toList ds).all (· ≤ reachBytes) = true := hsz0
    rw [Try.params6] at hA hval hsz
    clear hA0 hval0 hsz0
    obtain ⟨v0, vs0, d0, ds0, p0, q0, hargs, rfl, rfl, h0, r0⟩ := trodAll_cons hA
    obtain ⟨v1, vs1, d1, ds1, p1, q1, rfl, rfl, rfl, h1, r1⟩ := trodAll_cons r0
    obtain ⟨rfl, rfl, rfl⟩ := trodAll_nil r1
    obtain rfl : args = #[v0, v1] := by cases args; simp_all
    obtain ⟨n, rfl, rfl, rfl, wn⟩ := open_int Try.underlying3 (hval 0 3 v0 rfl rfl) h0
    obtain ⟨near, rfl, rfl, rfl⟩ := open_bool Try.underlying4 (hval 1 4 v1 rfl rfl) h1
    change Calls Try.prog 6 #[.int .i64 n, .bool near] W (RetB (.bool true) W)
    have ha := Lib.hid (awake4_any W)
    cases near
    · obtain ⟨y, m, d, c, h1, h2⟩ := civ_both n W
      have H1 := Lib.hid h1; have H2 := Lib.hid h2; clear h1 h2
      go_enter Try.func6, Try.ntmps6
      go_wp2_with (first
        | (go_at_call 13; refine H1.out.mono ?_; rintro e w' ⟨rfl, rfl⟩)
        | (go_at_call 20; refine H2.out.mono ?_; rintro e w' ⟨rfl, rfl⟩)
        | (go_at_call 15; refine ha.out.mono ?_; rintro e w' ⟨rfl, rfl⟩))
      go_ret
      exact RetB.mk rfl (Below.refl _ _)
    · have hs := Lib.hid (day_any n W wn)
      have hb := dayN_bd n
      have hp := Lib.hid (pick_at (wrap64 (n.tdiv 7)) 5 W (wf_wrap64 _) (by decide) (by decide))
      have hb2 := pickN_bd (wrap64 (n.tdiv 7)) (n := 5) (by decide)
      generalize dayN n = k at *
      generalize pickN (wrap64 (n.tdiv 7)) 5 = p at *
      obtain ⟨y, m, d, c, h1, h2⟩ := civ_both (k + p - 2) W
      have H1 := Lib.hid h1; have H2 := Lib.hid h2; clear h1 h2
      go_enter Try.func6, Try.ntmps6
      go_wp2_with (first
        | (go_at_call 19; refine hs.out.mono ?_; rintro e w' ⟨rfl, rfl⟩)
        | (go_at_call 14; refine hp.out.mono ?_; rintro e w' ⟨rfl, rfl⟩)
        | (go_at_call 13; refine H1.out.mono ?_; rintro e w' ⟨rfl, rfl⟩)
        | (go_at_call 20; refine H2.out.mono ?_; rintro e w' ⟨rfl, rfl⟩)
        | (go_at_call 15; refine ha.out.mono ?_; rintro e w' ⟨rfl, rfl⟩))
      go_ret
      exact RetB.mk rfl (Below.refl _ _)
theorem dateCivil_holds : Rows.DateCivilSaid :=
  OpenClaim.holds_of_wide 6 Try.f6 rfl rfl rfl rfl rfl rfl rfl ⟨rfl, rfl, rfl, rfl, rfl⟩ rfl rfl rfl rfl rfl (by kernel_rfl) Try.func6 (by kernel_rfl)
    (of_decide_eq_true (by kernel_rfl)) (by unfold Func.isWrapper; first | (rw [if_pos (by decide +kernel)]; kernel_rfl) | (rw [if_neg (by decide +kernel)]; exact ⟨rfl, rfl⟩))
    (fun os started H enc _ => dateCivil_lifted os started H enc)

end Go.Proofs.Ytgabghgjldbfhaa
