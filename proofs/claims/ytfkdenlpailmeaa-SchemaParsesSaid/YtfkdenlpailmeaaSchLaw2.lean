/- SchemaParses: Parse returns the specified schema, or the specified error and line, for arbitrary texts and for texts of typical words. No condition. -/
import Derived.Test.YtfkdenlpailmeaaSchK
namespace Go.Proofs.Ytfkdenlpailmeaa
open Go.RowKit Go.VB Go.VL Go.SC Go.ChangeShapes Go.WideShapes Go.ChangeAt
open Go.ChangeMaps (open_string)
set_option linter.constructorNameAsVariable false
set_option maxRecDepth 100000 in
set_option maxHeartbeats 1000000 in
theorem example_any (w : World) : Calls Try.prog 10 #[] w (Ret (.string ⟨#[105, 100, 32, 105, 110, 116, 10, 112, 114, 105, 99, 101, 32, 100, 101, 99, 105, 109, 97, 108, 32, 50, 32, 110, 117, 108, 108, 10, 107, 101, 121, 32, 105, 100, 10]⟩) w) := by
  go_enter Try.func10, Try.ntmps10
  go_wp2
  go_ret
  exact Ret.mk rfl
theorem parses_at (s : ByteArray) (w : World) : Calls Try.prog 9 #[.string s] w (RetB (.bool true) w) := parses_any s.data.toList w
theorem mem_int2 {l : List Int} {i : Nat} (h : i < l.length) : l.getD i 0 ∈ l := by
  rw [List.getD_eq_getElem?_getD, List.getElem?_eq_getElem h]; exact List.getElem_mem h
set_option maxRecDepth 100000 in
set_option maxHeartbeats 8000000 in
theorem sparses_walk (s : ByteArray) (v5 : Value) (zl : List Int) (W : World) (rl : RdI .u8 W W.heap.size v5 zl) (wl : ∀ z ∈ zl, (Lit.int .u8 z).wf = true) :
    Calls Try.prog 4 #[.string s, v5] W (RetB (.bool true) W) := by
  have hAw := fun w => Lib.hid (awake7_any w)
  have hEx := fun w => Lib.hid (example_any w)
  obtain ⟨A, cap, rfl, hcap, hmx, hrr⟩ := rl
  have hcell : ∀ (w : World), Below W.heap.size W w → Hid (∀ i, i < zl.length → ∃ ad, A = some ad ∧ w.cell? (ad.add i) = some (.int .u8 (zl.getD i 0))) := fun w hb => Lib.hid fun i hi => by
    obtain ⟨ad, h1, h2, h3⟩ := hrr i hi
    exact ⟨ad, h1, (hb.cell (by rw [Go.VB.block_add]; exact h2)).trans h3⟩
  have HWL := Lib.hid wl
  unfold maxLen at hmx
  have hlen : zl.length ≤ 9223372036854775807 := by omega
  clear hmx hcap hrr wl
  go_enter Try.func4, Try.ntmps4
  go_wp2_with fail
  go_loopw [5, 6] (fun x i wr => ∃ (T : ByteArray) (j : Nat), x = .string T ∧ i = .int .i64 (j : Int) ∧ j ≤ 60 ∧ j ≤ zl.length ∧ T.size ≤ 7 * j ∧ Below W.heap.size W wr) (fun _ i _ => 60 - (intOf i).toNat)
  case atStart => exact ⟨⟨#[]⟩, 0, rfl, rfl, by omega, by omega, by decide, Below.refl _ _⟩
  case round =>
    obtain ⟨T, j, rfl, rfl, hj, hjl, hT, hb⟩ := hrel
    by_cases hlt : j < zl.length ∧ j < 60
    · obtain ⟨h1, h2⟩ := hlt
      obtain ⟨ad, rfl, hac⟩ := (hcell _ hb).out j h1
      have hac' : ∀ o, (wr.alloc o).cell? (ad.add j) = some (.int .u8 (zl.getD j 0)) := fun o => by
        obtain ⟨a2, h3, h4⟩ := (hcell (wr.alloc o) (hb.alloc hb.size o)).out j h1
        obtain rfl := Option.some.inj h3
        exact h4
      obtain ⟨z1', z2'⟩ := bounds_u8 (HWL.out _ (mem_int2 h1))
      generalize zl.getD j 0 = z at *
      have htm : z.tmod 18 = z % 18 := Int.tmod_eq_emod_of_nonneg z1'
      have hadd : ∀ (b : ByteArray), b.size ≤ 7 → Hid (∀ w, (Op.stringOp .add T b).run Try.prog w = .ok (.string (T ++ b)) w) := fun b hb => Lib.hid fun w => run_string_add_sum w _ _ (by omega)
      have hsz : ∀ (b : ByteArray), b.size ≤ 7 → Hid ((T ++ b).size ≤ 7 * (j + 1)) := fun b hb => Lib.hid (by rw [ByteArray.size_append]; omega)
      have h18 : z % 18 = 0 ∨ z % 18 = 1 ∨ z % 18 = 2 ∨ z % 18 = 3 ∨ z % 18 = 4 ∨ z % 18 = 5 ∨ z % 18 = 6 ∨ z % 18 = 7 ∨ z % 18 = 8 ∨ z % 18 = 9 ∨ z % 18 = 10 ∨ z % 18 = 11 ∨ z % 18 = 12 ∨ z % 18 = 13 ∨ z % 18 = 14 ∨ z % 18 = 15 ∨ z % 18 = 16 ∨ z % 18 = 17 := by omega
      have a0 := (hadd ⟨#[97]⟩ (by decide)).out
      have a1 := (hadd ⟨#[98]⟩ (by decide)).out
      have a2 := (hadd ⟨#[105, 110, 116]⟩ (by decide)).out
      have a3 := (hadd ⟨#[98, 111, 111, 108]⟩ (by decide)).out
      have a4 := (hadd ⟨#[98, 121, 116, 101, 115]⟩ (by decide)).out
      have a5 := (hadd ⟨#[100, 97, 116, 101]⟩ (by decide)).out
      have a6 := (hadd ⟨#[100, 101, 99, 105, 109, 97, 108]⟩ (by decide)).out
      have a7 := (hadd ⟨#[110, 117, 108, 108]⟩ (by decide)).out
      have a8 := (hadd ⟨#[107, 101, 121]⟩ (by decide)).out
      have a9 := (hadd ⟨#[32]⟩ (by decide)).out
      have a10 := (hadd ⟨#[10]⟩ (by decide)).out
      have a11 := (hadd ⟨#[50]⟩ (by decide)).out
      have a12 := (hadd ⟨#[49, 57]⟩ (by decide)).out
      have a13 := (hadd ⟨#[48, 55]⟩ (by decide)).out
      have a14 := (hadd ⟨#[]⟩ (by decide)).out
      clear hcell hAw hEx hT hadd
      rcases h18 with h | h | h | h | h | h | h | h | h | h | h | h | h | h | h | h | h | h
      all_goals
        go_wp2
        exact ⟨⟨_, j + 1, rfl, by go_num, by omega, by omega, (hsz _ (by decide)).out, hb.alloc hb.size _⟩, by simp [intOf] <;> omega⟩
    · have hd2 : decide ((j : Int) < (zl.length : Int)) = false ∨ j = 60 := by
        by_cases h1 : j < zl.length
        · exact .inr (by omega)
        · exact .inl (decide_eq_false (by omega))
      have HPs := fun w => Lib.hid (parses_at s w)
      have HPt := fun w => Lib.hid (parses_at T w)
      have HPet := fun w => Lib.hid (parses_at (⟨#[105, 100, 32, 105, 110, 116, 10, 112, 114, 105, 99, 101, 32, 100, 101, 99, 105, 109, 97, 108, 32, 50, 32, 110, 117, 108, 108, 10, 107, 101, 121, 32, 105, 100, 10]⟩ ++ T) w)
      have HPte := fun w => Lib.hid (parses_at (T ++ ⟨#[105, 100, 32, 105, 110, 116, 10, 112, 114, 105, 99, 101, 32, 100, 101, 99, 105, 109, 97, 108, 32, 50, 32, 110, 117, 108, 108, 10, 107, 101, 121, 32, 105, 100, 10]⟩) w)
      have a1 : ∀ w, (Op.stringOp .add ⟨#[105, 100, 32, 105, 110, 116, 10, 112, 114, 105, 99, 101, 32, 100, 101, 99, 105, 109, 97, 108, 32, 50, 32, 110, 117, 108, 108, 10, 107, 101, 121, 32, 105, 100, 10]⟩ T).run Try.prog w = .ok (.string (⟨#[105, 100, 32, 105, 110, 116, 10, 112, 114, 105, 99, 101, 32, 100, 101, 99, 105, 109, 97, 108, 32, 50, 32, 110, 117, 108, 108, 10, 107, 101, 121, 32, 105, 100, 10]⟩ ++ T)) w := fun w => run_string_add_sum w _ _ (by show 35 + T.size ≤ _; omega)
      have a2 : ∀ w, (Op.stringOp .add T ⟨#[105, 100, 32, 105, 110, 116, 10, 112, 114, 105, 99, 101, 32, 100, 101, 99, 105, 109, 97, 108, 32, 50, 32, 110, 117, 108, 108, 10, 107, 101, 121, 32, 105, 100, 10]⟩).run Try.prog w = .ok (.string (T ++ ⟨#[105, 100, 32, 105, 110, 116, 10, 112, 114, 105, 99, 101, 32, 100, 101, 99, 105, 109, 97, 108, 32, 50, 32, 110, 117, 108, 108, 10, 107, 101, 121, 32, 105, 100, 10]⟩)) w := fun w => run_string_add_sum w _ _ (by show T.size + 35 ≤ _; omega)
      clear hcell hlt hT
      rcases hd2 with hd | hd
      rotate_left
      · subst hd
        have hd : (60 : Int) < (zl.length : Int) ∨ ¬ (60 : Int) < (zl.length : Int) := Decidable.em _
        obtain hd | hd := hd
        all_goals
          go_wp2_with fail
          refine (hAw _).out.mono ?_
          rintro e w1 ⟨rfl, hb1⟩
          go_wp2_with fail
          refine (HPs _).out.mono ?_
          rintro e w2 ⟨rfl, hb2⟩
          go_wp2_with fail
          refine (HPt _).out.mono ?_
          rintro e w3 ⟨rfl, hb3⟩
          go_wp2_with fail
          refine (hEx _).out.mono ?_
          rintro e w' ⟨rfl, rfl⟩
          go_wp2_with fail
          refine (HPet _).out.mono ?_
          rintro e w4 ⟨rfl, hb4⟩
          go_wp2_with fail
          refine (hEx _).out.mono ?_
          rintro e w' ⟨rfl, rfl⟩
          go_wp2_with fail
          refine (HPte _).out.mono ?_
          rintro e w5 ⟨rfl, hb5⟩
          go_wp2_with fail
          go_ret
          exact RetB.mk rfl (bel_trans (bel_trans (bel_trans (bel_trans (bel_trans hb hb1) hb2) hb3) hb4) hb5)
      · have hdn : zl.length ≤ j := by have := of_decide_eq_false hd; omega
        obtain rfl : zl.length = j := by omega
        clear hd
        go_wp2_with fail
        refine (hAw _).out.mono ?_
        rintro e w1 ⟨rfl, hb1⟩
        go_wp2_with fail
        refine (HPs _).out.mono ?_
        rintro e w2 ⟨rfl, hb2⟩
        go_wp2_with fail
        refine (HPt _).out.mono ?_
        rintro e w3 ⟨rfl, hb3⟩
        go_wp2_with fail
        refine (hEx _).out.mono ?_
        rintro e w' ⟨rfl, rfl⟩
        go_wp2_with fail
        refine (HPet _).out.mono ?_
        rintro e w4 ⟨rfl, hb4⟩
        go_wp2_with fail
        refine (hEx _).out.mono ?_
        rintro e w' ⟨rfl, rfl⟩
        go_wp2_with fail
        refine (HPte _).out.mono ?_
        rintro e w5 ⟨rfl, hb5⟩
        go_wp2_with fail
        go_ret
        exact RetB.mk rfl (bel_trans (bel_trans (bel_trans (bel_trans (bel_trans hb hb1) hb2) hb3) hb4) hb5)
set_option maxRecDepth 100000 in
set_option maxHeartbeats 4000000 in
theorem schemaParses_lifted (os : Os) (started : os.Started) (H : Type) (enc : TypeId × Value → H) :
    ReturnsInHanded {} Try.checked os 4 .any (Rows.schemaParsesSpec.pre6 enc Try.prog Try.f4 Rows.schemaParsesRow.domain false) (Rows.schemaParsesSpec.post enc Try.prog Try.f4 false true false false) := by
  refine law_lifted (C := Try.checked) (tb := 4) started Try.own Try.laidOut (by kernel_rfl) Try.func4
    (ChangeSpec.witness6 (enc := enc) (C := Try.checked) false ⟨#[], #[.string ⟨#[]⟩, .slice none 0 0], []⟩ 8 (by kernel_rfl) (by kernel_rfl) (by kernel_rfl) (by kernel_rfl))
    rfl rfl Try.underlying4 (by kernel_rfl) (fun ds h => ?_) (fun W base args ds p hval0 hA0 hsz0 hlt => ?_)
  · have h' : ds.length = Try.f4.params.toList.length := h
    rw [Try.params4] at h'
    match ds, h' with
    | [_, _], _ => rfl
  · have hval : ∀ (j : Nat) t v, Try.f4.params[j]? = some t → args[j]? = some v → Value.okWide Try.prog W .any base t v := hval0
    have hA : DataW.TrodAll enc Try.prog W 0 (fun _ => true) true Try.f4.params.toList args.toList ds p := hA0
    have hsz : (DataW.weightsEach Try.prog Try.f4.params.toList ds).all (· ≤ reachBytes) = true := hsz0
    rw [Try.params4] at hA hval hsz
    clear hA0 hval0 hsz0
    obtain ⟨v0, vs0, d0, ds0, p0, q0, hargs, rfl, rfl, h0, r0⟩ := trodAll_cons hA
    obtain ⟨v1, vs1, d1, ds1, p1, q1, rfl, rfl, rfl, h1, r1⟩ := trodAll_cons r0
    obtain ⟨rfl, rfl, rfl⟩ := trodAll_nil r1
    obtain rfl : args = #[v0, v1] := by cases args; simp_all
    obtain ⟨s, rfl, rfl, rfl, _⟩ := open_string Try.underlying9 (hval 0 9 v0 rfl rfl) h0
    have zs : s.size ≤ 140737488351232 := by have h := sized_string hsz (j := 0) (t := 9) rfl rfl; rw [size_list] at h; exact h
    obtain ⟨zl, rl, wl, bl⟩ := open_rdI Try.underlying22 Try.underlying5 (by kernel_rfl) (hval 1 22 v1 rfl rfl) h1 hsz (j := 1) rfl rfl
    change Calls Try.prog 4 #[.string s, v1] W (RetB (.bool true) W)
    exact sparses_walk s v1 zl W rl wl
theorem schemaParses_holds : Rows.SchemaParsesSaid :=
  OpenClaim.holds_of_wide 4 Try.f4 rfl rfl rfl rfl rfl rfl rfl ⟨rfl, rfl, rfl, rfl, rfl⟩ rfl rfl rfl rfl rfl (by kernel_rfl) Try.func4 (by kernel_rfl)
    (of_decide_eq_true (by kernel_rfl)) (by unfold Func.isWrapper; first | (rw [if_pos (by decide +kernel)]; kernel_rfl) | (rw [if_neg (by decide +kernel)]; exact ⟨rfl, rfl⟩))
    (fun os started H enc _ => schemaParses_lifted os started H enc)
end Go.Proofs.Ytfkdenlpailmeaa
