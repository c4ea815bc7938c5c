/- A statement of layer 5 on arbitrary texts, out of the contracts. -/
import Derived.Test.YtclpgfckcdaefaaDecLaw
import Derived.Test.YtclpgfckcdaefaaDecW9
namespace Go.Proofs.Ytclpgfckcdaefaa
open Go.RowKit Go.VB Go.DT Go.DC Go.ChangeShapes Go.WideShapes Go.ChangeAt
open Go.ChangeMaps (open_string)
set_option linter.constructorNameAsVariable false
theorem size_two {T X : ByteArray} {j : Nat} (hT : T.size ≤ 2 * j) (hX : X.size ≤ 2) : (T ++ X).size ≤ 2 * (j + 1) := by rw [ByteArray.size_append]; omega

set_option maxRecDepth 100000 in
set_option maxHeartbeats 4000000 in
theorem decimalParses_lifted (os : Os) (started : os.Started) (H : Type) (enc : TypeId × Value → H) :
    ReturnsInHanded {} Try.checked os 5 .any (Rows.decimalParsesSpec.pre6 enc Try.prog Try.f5 Rows.decimalParsesRow.domain false) (Rows.decimalParsesSpec.post enc Try.prog Try.f5 false true false false) := by
  refine law_lifted (C := Try.checked) (tb := 4) started Try.own Try.laidOut (by kernel_rfl) Try.func5
    (ChangeSpec.witness6 (enc := enc) (C := Try.checked) false ⟨#[], #[.string ⟨#[]⟩, .slice none 0 0, .int .i64 0], []⟩ 8 (by kernel_rfl) (by kernel_rfl) (by kernel_rfl) (by kernel_rfl))
    rfl rfl Try.underlying4 (by kernel_rfl) (fun ds h => ?_) (fun W base args ds p hval0 hA0 hsz0 hlt => ?_)
  · have h' : ds.length = Try.f5.params.toList.length := h
    rw [Try.params5] at h'
    match ds, h' with
    | [_, _, _], _ => rfl
  · have hval : ∀ (j : Nat) t v, Try.f5.params[j]? = some t → args[j]? = some v → Value.okWide Try.prog W .any base t v := hval0
    have hA : DataW.TrodAll enc Try.prog W 0 (fun _ => true) true Try.f5.params.toList args.toList ds p := hA0
    have hsz : (DataW.weightsEach Try.prog Try.f5.params.toList ds).all (· ≤ reachBytes) = true := hsz0
    rw [Try.params5] at hA hval hsz
    clear hA0 hval0 hsz0
    obtain ⟨v0, vs0, d0, ds0, p0, q0, hargs, rfl, rfl, h0, r0⟩ := trodAll_cons hA
    obtain ⟨v1, vs1, d1, ds1, p1, q1, rfl, rfl, rfl, h1, r1⟩ := trodAll_cons r0
    obtain ⟨v2, vs2, d2, ds2, p2, q2, rfl, rfl, rfl, h2, r2⟩ := trodAll_cons r1
    obtain ⟨rfl, rfl, rfl⟩ := trodAll_nil r2
    obtain rfl : args = #[v0, v1, v2] := by cases args; simp_all
    obtain ⟨s, rfl, rfl, rfl, _⟩ := open_string Try.underlying9 (hval 0 9 v0 rfl rfl) h0
    have zs : s.size ≤ 140737488351232 := by have h := sized_string hsz (j := 0) (t := 9) rfl rfl; rw [size_list] at h; exact h
    obtain ⟨zl, rl, wl, bl⟩ := open_rdI Try.underlying31 Try.underlying5 (by kernel_rfl) (hval 1 31 v1 rfl rfl) h1 hsz (j := 1) rfl rfl
    obtain ⟨k, rfl, rfl, rfl, wk⟩ := open_int Try.underlying3 (hval 2 3 v2 rfl rfl) h2
    change Calls Try.prog 5 #[.string s, v1, .int .i64 k] W (RetB (.bool true) W)
    have ha := fun w => Lib.hid (awake5_any w)
    have hs := fun w => Lib.hid (sclN_any k w wk)
    generalize sclN k = q at *
    have hP1 := fun w => Lib.hid (dparse_any s q w zs)
    have hP2 := fun w => Lib.hid (rdparse_any s q w zs)
    generalize PN s q = n1 at *
    generalize PC s q = c1 at *
    have hrl := rl
    obtain ⟨A, c, rfl, hc1, hc2, _⟩ := hrl
    unfold maxLen at hc2
    have HR := Lib.hid rl; have HW := Lib.hid wl; clear rl wl
    go_enter Try.func5, Try.ntmps5
    go_wp2
    go_loopw [7, 8] (fun t i wr => ∃ (j : Nat) (T : ByteArray), t = .string T ∧ T.size ≤ 2 * j ∧ i = .int .i64 j ∧ j ≤ 24 ∧ Below W.heap.size W wr) (fun _ i _ => 24 - (intOf i).toNat)
    case atStart => exact ⟨0, _, rfl, Nat.zero_le _, rfl, by decide, Below.refl _ _⟩
    case round =>
      obtain ⟨j, T, rfl, hT, rfl, hj, hbel⟩ := hrel
      by_cases hgo : j < 24 ∧ j < zl.length
      · obtain ⟨hlt, hin⟩ := hgo
        obtain ⟨_, _, hv1, _, _, hcl⟩ := HR.out.below hbel
        cases hv1
        obtain ⟨ad, rfl, hadb, hcell⟩ := hcl j hin
        clear hcl
        have hzw := bounds_u8 (HW.out (zl.getD j 0) (by rw [List.getD_eq_getElem?_getD, List.getElem?_eq_getElem hin]; exact List.getElem_mem hin))
        generalize zl.getD j 0 = z at hcell hzw
        obtain ⟨z, rfl⟩ := Int.eq_ofNat_of_zero_le hzw.1
        have hz255 : z ≤ 255 := by omega
        clear hzw
        have hsz := hbel.size
        have hcell2 : ∀ O, (wr.alloc O).cell? (ad.add j) = some (Value.int .u8 (z : Int)) := fun O => (((Below.refl _ _).alloc (Nat.le_refl _) O).cell (by rw [Go.VB.block_add]; omega)).trans hcell
        have hc : z % 8 = 0 ∨ z % 8 = 1 ∨ z % 8 = 2 ∨ z % 8 = 3 ∨ z % 8 = 4 ∨ z % 8 = 5 ∨ z % 8 = 6 ∨ z % 8 = 7 := by omega
        have hT48 : T.size ≤ 48 := by omega
        rcases hc with h8 | h8 | h8 | h8 | h8 | h8 | h8 | h8
        all_goals (
          have h8i : (z : Int) % 8 = ((z % 8 : Nat) : Int) := by push_cast; rfl
          rw [h8] at h8i
          clear h8
          go_wp2
          go_roundw
          case rel => exact ⟨j + 1, _, rfl, size_two hT (by decide), by go_num, hlt, hbel.alloc hsz _⟩
          case measure => simp [intOf] <;> omega)
      · have hP3 := fun w => Lib.hid (dparse_any T q w (by omega))
        have hP4 := fun w => Lib.hid (rdparse_any T q w (by omega))
        generalize PN T q = n2 at *
        generalize PC T q = c2 at *
        by_cases hin : j < zl.length
        · have h24 : 24 ≤ j := by omega
          clear hgo
          go_wp2_with (go_at_call 13; refine (hs _).out.mono ?_; rintro e w' ⟨rfl, rfl⟩)
          (with_reducible refine (hP1 _).out.mono ?_)
          rintro e w1 ⟨rfl, b1⟩
          go_wp2_with (go_at_call 13; refine (hs _).out.mono ?_; rintro e w' ⟨rfl, rfl⟩)
          (with_reducible refine (hP2 _).out.mono ?_)
          rintro e w2 ⟨rfl, b2⟩
          go_wp2_with (go_at_call 13; refine (hs _).out.mono ?_; rintro e w' ⟨rfl, rfl⟩)
          (with_reducible refine (hP3 _).out.mono ?_)
          rintro e w3 ⟨rfl, b3⟩
          go_wp2_with (go_at_call 13; refine (hs _).out.mono ?_; rintro e w' ⟨rfl, rfl⟩)
          (with_reducible refine (hP4 _).out.mono ?_)
          rintro e w4 ⟨rfl, b4⟩
          go_wp2_with fail
          refine (ha _).out.mono ?_
          rintro e w5 ⟨rfl, b5⟩
          go_wp2
          go_ret
          exact RetB.mk rfl (bel_trans (bel_trans (bel_trans (bel_trans (bel_trans hbel b1) b2) b3) b4) b5)
        · clear hgo
          go_wp2_with (go_at_call 13; refine (hs _).out.mono ?_; rintro e w' ⟨rfl, rfl⟩)
          (with_reducible refine (hP1 _).out.mono ?_)
          rintro e w1 ⟨rfl, b1⟩
          go_wp2_with (go_at_call 13; refine (hs _).out.mono ?_; rintro e w' ⟨rfl, rfl⟩)
          (with_reducible refine (hP2 _).out.mono ?_)
          rintro e w2 ⟨rfl, b2⟩
          go_wp2_with (go_at_call 13; refine (hs _).out.mono ?_; rintro e w' ⟨rfl, rfl⟩)
          (with_reducible refine (hP3 _).out.mono ?_)
          rintro e w3 ⟨rfl, b3⟩
          go_wp2_with (go_at_call 13; refine (hs _).out.mono ?_; rintro e w' ⟨rfl, rfl⟩)
          (with_reducible refine (hP4 _).out.mono ?_)
          rintro e w4 ⟨rfl, b4⟩
          go_wp2_with fail
          refine (ha _).out.mono ?_
          rintro e w5 ⟨rfl, b5⟩
          go_wp2
          go_ret
          exact RetB.mk rfl (bel_trans (bel_trans (bel_trans (bel_trans (bel_trans hbel b1) b2) b3) b4) b5)
theorem decimalParses_holds : Rows.DecimalParsesSaid :=
  OpenClaim.holds_of_wide 5 Try.f5 rfl rfl rfl rfl rfl rfl rfl ⟨rfl, rfl, rfl, rfl, rfl⟩ rfl rfl rfl rfl rfl (by kernel_rfl) Try.func5 (by kernel_rfl)
    (of_decide_eq_true (by kernel_rfl)) (by unfold Func.isWrapper; first | (rw [if_pos (by decide +kernel)]; kernel_rfl) | (rw [if_neg (by decide +kernel)]; exact ⟨rfl, rfl⟩))
    (fun os started H enc _ => decimalParses_lifted os started H enc)
end Go.Proofs.Ytclpgfckcdaefaa
