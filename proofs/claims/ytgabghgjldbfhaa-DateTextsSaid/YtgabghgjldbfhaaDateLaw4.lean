/- A statement of layer 4 on arbitrary texts, out of the contracts. -/
import Derived.Test.YtgabghgjldbfhaaDateLaw
import Derived.Test.YtgabghgjldbfhaaDateW6
namespace Go.Proofs.Ytgabghgjldbfhaa
open Go.RowKit Go.VB Go.DT Go.ChangeShapes Go.WideShapes Go.ChangeAt
open Go.ChangeMaps (open_string)
set_option linter.constructorNameAsVariable false
theorem size_one {T X : ByteArray} {j : Nat} (hT : T.size = j) (hX : X.size = 1) : (T ++ X).size = j + 1 := by rw [ByteArray.size_append, hT, hX]
theorem size_ext1 (s : ByteArray) (a : Nat) (h : a + 1 ≤ s.size) : (s.extract a (a + 1)).size = 1 := by rw [size_extract s a (a + 1) h]; omega
set_option maxRecDepth 100000 in
set_option maxHeartbeats 4000000 in
theorem dateTexts_lifted (os : Os) (started : os.Started) (H : Type) (enc : TypeId × Value → H) :
    ReturnsInHanded {} Try.checked os 9 .any (Rows.dateTextsSpec.pre6 enc Try.prog Try.f9 Rows.dateTextsRow.domain false) (Rows.dateTextsSpec.post enc Try.prog Try.f9 false true false false) := by
  refine law_lifted (C := Try.checked) (tb := 4) started Try.own Try.laidOut (by kernel_rfl) Try.func9
    (ChangeSpec.witness6 (enc := enc) (C := Try.checked) false ⟨#[], #[.string ⟨#[]⟩, .slice none 0 0], []⟩ 8 (by kernel_rfl) (by kernel_rfl) (by kernel_rfl) (by kernel_rfl))
    rfl rfl Try.underlying4 (by kernel_rfl) (fun ds h => ?_) (fun W base args ds p hval0 hA0 hsz0 hlt => ?_)
  · have h' : ds.length = Try.f9.params.toList.length := h
    rw [Try.params9] at h'
    match ds, h' with
    | [_, _], _ => rfl
  · have hval : ∀ (j : Nat) t v, Try.f9.params[j]? = some t → args[j]? = some v → Value.okWide Try.prog W .any base t v := hval0
    have hA : DataW.TrodAll enc Try.prog W 0 (fun _ => true) true Try.f9.params.toList args.toList ds p := hA0
    have hsz : (DataW.weightsEach Try.prog Try.f9.params.toList ds).all (· ≤ reachBytes) = true := hsz0
    rw [Try.params9] at hA hval hsz
    clear hA0 hval0 hsz0
    obtain ⟨v0, vs0, d0, ds0, p0, q0, hargs, rfl, rfl, h0, r0⟩ := trodAll_cons hA
    obtain ⟨v1, vs1, d1, ds1, p1, q1, rfl, rfl, rfl, h1, r1⟩ := trodAll_cons r0
    obtain ⟨rfl, rfl, rfl⟩ := trodAll_nil r1
    obtain rfl : args = #[v0, v1] := by cases args; simp_all
    obtain ⟨s, rfl, rfl, rfl, _⟩ := open_string Try.underlying9 (hval 0 9 v0 rfl rfl) h0
    have zs : s.size ≤ 140737488351232 := by have h := sized_string hsz (j := 0) (t := 9) rfl rfl; rw [size_list] at h; exact h
    obtain ⟨zl, rl, wl, bl⟩ := open_rdI Try.underlying33 Try.underlying5 (by kernel_rfl) (hval 1 33 v1 rfl rfl) h1 hsz (j := 1) rfl rfl
    change Calls Try.prog 9 #[.string s, v1] W (RetB (.bool true) W)
    have ha := fun w => Lib.hid (awake4_any w)
    have hP1 := fun w => Lib.hid (parse_any s w zs)
    have hP2 := fun w => Lib.hid (rparse_any s w zs)
    generalize pn s = n1 at *
    generalize pc s = c1 at *
    have hrl := rl
    obtain ⟨A, c, rfl, hc1, hc2, _⟩ := hrl
    unfold maxLen at hc2
    have HR := Lib.hid rl; have HW := Lib.hid wl; clear rl wl
    go_enter Try.func9, Try.ntmps9
    go_wp2
    go_loop [5, 6] (fun t i => ∃ (j : Nat) (T : ByteArray), t = .string T ∧ T.size = j ∧ i = .int .i64 j ∧ j ≤ 10) (fun _ i => 10 - (intOf i).toNat)
    case atStart => exact ⟨0, _, rfl, rfl, rfl, by decide⟩
    case round =>
      obtain ⟨j, T, rfl, hT, rfl, hj⟩ := hrel
      by_cases hlt : j < 10
      · by_cases hin : j < zl.length
        · obtain ⟨_, _, hv1, _, _, hcl⟩ := HR.out
          cases hv1
          obtain ⟨ad, rfl, _, hcell⟩ := hcl j hin
          clear hcl
          have hzw := bounds_u8 (HW.out (zl.getD j 0) (by rw [List.getD_eq_getElem?_getD, List.getElem?_eq_getElem hin]; exact List.getElem_mem hin))
          generalize zl.getD j 0 = z at hcell hzw
          obtain ⟨z, rfl⟩ := Int.eq_ofNat_of_zero_le hzw.1
          have hz255 : z ≤ 255 := by omega
          clear hzw
          go_wp2
          all_goals (
            exact ⟨⟨_, _, rfl, size_one hT (by first | rfl | exact size_ext1 _ _ (by show z % 4 + 1 ≤ 4; omega) | exact size_ext1 _ _ (by show z % 10 + 1 ≤ 10; omega)), vint (by push_cast; omega), by omega⟩, by simp [intOf] <;> omega⟩)
        · go_wp2
          all_goals (
            exact ⟨⟨_, _, rfl, size_one hT (by rfl), vint (by push_cast; omega), by omega⟩, by simp [intOf] <;> omega⟩)
      · have hj2 : j = 10 := by omega
        subst hj2
        have hP3 := fun w => Lib.hid (parse_any T w (by omega))
        have hP4 := fun w => Lib.hid (rparse_any T w (by omega))
        generalize pn T = n2 at *
        generalize pc T = c2 at *
        go_wp2_with fail
        refine (hP1 _).out.mono ?_
        rintro e w1 ⟨rfl, b1⟩
        go_wp2_with fail
        refine (hP2 _).out.mono ?_
        rintro e w2 ⟨rfl, b2⟩
        go_wp2_with fail
        refine (hP3 _).out.mono ?_
        rintro e w3 ⟨rfl, b3⟩
        go_wp2_with fail
        refine (hP4 _).out.mono ?_
        rintro e w4 ⟨rfl, b4⟩
        go_wp2_with (go_at_call 15; refine (ha _).out.mono ?_; rintro e w' ⟨rfl, rfl⟩)
        go_ret
        exact RetB.mk rfl (bel_trans (bel_trans (bel_trans b1 b2) b3) b4)
theorem dateTexts_holds : Rows.DateTextsSaid :=
  OpenClaim.holds_of_wide 9 Try.f9 rfl rfl rfl rfl rfl rfl rfl ⟨rfl, rfl, rfl, rfl, rfl⟩ rfl rfl rfl rfl rfl (by kernel_rfl) Try.func9 (by kernel_rfl)
    (of_decide_eq_true (by kernel_rfl)) (by unfold Func.isWrapper; first | (rw [if_pos (by decide +kernel)]; kernel_rfl) | (rw [if_neg (by decide +kernel)]; exact ⟨rfl, rfl⟩))
    (fun os started H enc _ => dateTexts_lifted os started H enc)
end Go.Proofs.Ytgabghgjldbfhaa
