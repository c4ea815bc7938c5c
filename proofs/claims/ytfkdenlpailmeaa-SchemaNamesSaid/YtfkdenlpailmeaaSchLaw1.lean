/- SchemaNames: Name accepts exactly the names. No condition. -/
import Derived.Test.YtfkdenlpailmeaaSchA
namespace Go.Proofs.Ytfkdenlpailmeaa
open Go.RowKit Go.VB Go.VL Go.SC Go.ChangeShapes Go.WideShapes Go.ChangeAt
open Go.ChangeMaps (open_string)
set_option linter.constructorNameAsVariable false
theorem mem_int {l : List Int} {i : Nat} (h : i < l.length) : l.getD i 0 ∈ l := by
  rw [List.getD_eq_getElem?_getD, List.getElem?_eq_getElem h]; exact List.getElem_mem h
set_option maxRecDepth 100000 in
set_option maxHeartbeats 4000000 in
theorem names_walk (s : ByteArray) (v5 : Value) (zl : List Int) (W : World) (rl : RdI .u8 W W.heap.size v5 zl) (wl : ∀ z ∈ zl, (Lit.int .u8 z).wf = true) :
    Calls Try.prog 3 #[.string s, v5] W (RetB (.bool true) W) := by
  have hAw := fun w => Lib.hid (awake7_any w)
  have HN := fun s w => Lib.hid (name_any s w)
  have HR := fun s w => Lib.hid (rname_any s w)
  obtain ⟨A, cap, rfl, hcap, hmx, hrr⟩ := rl
  have hcell : ∀ (w : World), Below W.heap.size W w → Hid (∀ i, i < zl.length → ∃ ad, A = some ad ∧ w.cell? (ad.add i) = some (.int .u8 (zl.getD i 0))) := fun w hb => Lib.hid fun i hi => by
    obtain ⟨ad, h1, h2, h3⟩ := hrr i hi
    exact ⟨ad, h1, (hb.cell (by rw [Go.VB.block_add]; exact h2)).trans h3⟩
  have HWL := Lib.hid wl
  unfold maxLen at hmx
  have hlen : zl.length ≤ 9223372036854775807 := by omega
  clear hmx hcap hrr wl
  go_enter Try.func3, Try.ntmps3
  go_wp2_with fail
  go_loopw [5, 6] (fun x i wr => ∃ (T : ByteArray) (j : Nat), x = .string T ∧ i = .int .i64 (j : Int) ∧ j ≤ 18 ∧ j ≤ zl.length ∧ T.size ≤ 3 * j ∧ Below W.heap.size W wr) (fun _ i _ => 18 - (intOf i).toNat)
  case atStart => exact ⟨⟨#[]⟩, 0, rfl, rfl, by omega, by omega, by decide, Below.refl _ _⟩
  case round =>
    obtain ⟨T, j, rfl, rfl, hj, hjl, hT, hb⟩ := hrel
    by_cases hlt : j < zl.length ∧ j < 18
    · obtain ⟨h1, h2⟩ := hlt
      obtain ⟨ad, rfl, hac⟩ := (hcell _ hb).out j h1
      have hac' : ∀ o, (wr.alloc o).cell? (ad.add j) = some (.int .u8 (zl.getD j 0)) := fun o => by
        obtain ⟨a2, h3, h4⟩ := (hcell (wr.alloc o) (hb.alloc hb.size o)).out j h1
        obtain rfl := Option.some.inj h3
        exact h4
      obtain ⟨z1', z2'⟩ := bounds_u8 (HWL.out _ (mem_int h1))
      generalize zl.getD j 0 = z at *
      have htm : z.tmod 8 = z % 8 := Int.tmod_eq_emod_of_nonneg z1'
      have hadd : ∀ (b : ByteArray), b.size ≤ 3 → Hid (∀ w, (Op.stringOp .add T b).run Try.prog w = .ok (.string (T ++ b)) w) := fun b hb => Lib.hid fun w => run_string_add_sum w _ _ (by omega)
      have hsz : ∀ (b : ByteArray), b.size ≤ 3 → Hid ((T ++ b).size ≤ 3 * (j + 1)) := fun b hb => Lib.hid (by rw [ByteArray.size_append]; omega)
      have h8 : z % 8 = 0 ∨ z % 8 = 1 ∨ z % 8 = 2 ∨ z % 8 = 3 ∨ z % 8 = 4 ∨ z % 8 = 5 ∨ z % 8 = 6 ∨ z % 8 = 7 := by omega
      have a1 := (hadd ⟨#[97]⟩ (by decide)).out
      have a2 := (hadd ⟨#[122]⟩ (by decide)).out
      have a3 := (hadd ⟨#[95]⟩ (by decide)).out
      have a4 := (hadd ⟨#[48]⟩ (by decide)).out
      have a5 := (hadd ⟨#[107, 101, 121]⟩ (by decide)).out
      have a6 := (hadd ⟨#[66]⟩ (by decide)).out
      have a7 := (hadd ⟨#[57]⟩ (by decide)).out
      have a8 := (hadd ⟨#[45]⟩ (by decide)).out
      clear hcell HN HR hAw hT hadd
      rcases h8 with h | h | h | h | h | h | h | h
      all_goals
        go_wp2
        exact ⟨⟨_, j + 1, rfl, by go_num, by omega, by omega, (hsz _ (by decide)).out, hb.alloc hb.size _⟩, by simp [intOf] <;> omega⟩
    · have hd2 : decide ((j : Int) < (zl.length : Int)) = false ∨ j = 18 := by
        by_cases h1 : j < zl.length
        · exact .inr (by omega)
        · exact .inl (decide_eq_false (by omega))
      have HNs := fun w => Lib.hid (HN s w).out
      have HRs := fun w => Lib.hid (HR s w).out
      have HNt := fun w => Lib.hid (HN T w).out
      have HRt := fun w => Lib.hid (HR T w).out
      clear HN HR hcell hlt hT
      generalize nameS s = b1 at *
      generalize nameS T = b2 at *
      have e1 : (b1 == b1) = true := beq_self_eq_true _
      have e2 : (b2 == b2) = true := beq_self_eq_true _
      have key : ∀ (i : Int), (decide (i < (zl.length : Int)) = false ∨ (decide (i < (zl.length : Int)) = true ∧ decide (i < 18) = false)) → True := fun _ _ => trivial
      clear key
      rcases hd2 with hd | hd
      rotate_left
      · subst hd
        have hd : (18 : Int) < (zl.length : Int) ∨ ¬ (18 : Int) < (zl.length : Int) := Decidable.em _
        obtain hd | hd := hd
        all_goals
          go_wp2_with fail
          refine (hAw _).out.mono ?_
          rintro e w1 ⟨rfl, hb1⟩
          go_wp2_with fail
          refine (HNs _).out.mono ?_
          rintro e w' ⟨rfl, rfl⟩
          go_wp2_with fail
          refine (HRs _).out.mono ?_
          rintro e w' ⟨rfl, rfl⟩
          go_wp2_with fail
          refine (HNt _).out.mono ?_
          rintro e w' ⟨rfl, rfl⟩
          go_wp2_with fail
          refine (HRt _).out.mono ?_
          rintro e w' ⟨rfl, rfl⟩
          go_wp2_with fail
          go_ret
          exact RetB.mk rfl (bel_trans hb hb1)
      · have hdn : zl.length ≤ j := by have := of_decide_eq_false hd; omega
        obtain rfl : zl.length = j := by omega
        clear hd
        go_wp2_with fail
        refine (hAw _).out.mono ?_
        rintro e w1 ⟨rfl, hb1⟩
        go_wp2_with fail
        refine (HNs _).out.mono ?_
        rintro e w' ⟨rfl, rfl⟩
        go_wp2_with fail
        refine (HRs _).out.mono ?_
        rintro e w' ⟨rfl, rfl⟩
        go_wp2_with fail
        refine (HNt _).out.mono ?_
        rintro e w' ⟨rfl, rfl⟩
        go_wp2_with fail
        refine (HRt _).out.mono ?_
        rintro e w' ⟨rfl, rfl⟩
        go_wp2_with fail
        go_ret
        exact RetB.mk rfl (bel_trans hb hb1)
set_option maxRecDepth 100000 in
set_option maxHeartbeats 4000000 in
theorem schemaNames_lifted (os : Os) (started : os.Started) (H : Type) (enc : TypeId × Value → H) :
    ReturnsInHanded {} Try.checked os 3 .any (Rows.schemaNamesSpec.pre6 enc Try.prog Try.f3 Rows.schemaNamesRow.domain false) (Rows.schemaNamesSpec.post enc Try.prog Try.f3 false true false false) := by
  refine law_lifted (C := Try.checked) (tb := 4) started Try.own Try.laidOut (by kernel_rfl) Try.func3
    (ChangeSpec.witness6 (enc := enc) (C := Try.checked) false ⟨#[], #[.string ⟨#[]⟩, .slice none 0 0], []⟩ 8 (by kernel_rfl) (by kernel_rfl) (by kernel_rfl) (by kernel_rfl))
    rfl rfl Try.underlying4 (by kernel_rfl) (fun ds h => ?_) (fun W base args ds p hval0 hA0 hsz0 hlt => ?_)
  · have h' : ds.length = Try.f3.params.toList.length := h
    rw [Try.params3] at h'
    match ds, h' with
    | [_, _], _ => rfl
  · have hval : ∀ (j : Nat) t v, Try.f3.params[j]? = some t → args[j]? = some v → Value.okWide Try.prog W .any base t v := hval0
    have hA : DataW.TrodAll enc Try.prog W 0 (fun _ => true) true Try.f3.params.toList args.toList ds p := hA0
    have hsz : (DataW.weightsEach Try.prog Try.f3.params.toList ds).all (· ≤ reachBytes) = true := hsz0
    rw [Try.params3] at hA hval hsz
    clear hA0 hval0 hsz0
    obtain ⟨v0, vs0, d0, ds0, p0, q0, hargs, rfl, rfl, h0, r0⟩ := trodAll_cons hA
    obtain ⟨v1, vs1, d1, ds1, p1, q1, rfl, rfl, rfl, h1, r1⟩ := trodAll_cons r0
    obtain ⟨rfl, rfl, rfl⟩ := trodAll_nil r1
    obtain rfl : args = #[v0, v1] := by cases args; simp_all
    obtain ⟨s, rfl, rfl, rfl, _⟩ := open_string Try.underlying9 (hval 0 9 v0 rfl rfl) h0
    have zs : s.size ≤ 140737488351232 := by have h := sized_string hsz (j := 0) (t := 9) rfl rfl; rw [size_list] at h; exact h
    obtain ⟨zl, rl, wl, bl⟩ := open_rdI Try.underlying22 Try.underlying5 (by kernel_rfl) (hval 1 22 v1 rfl rfl) h1 hsz (j := 1) rfl rfl
    change Calls Try.prog 3 #[.string s, v1] W (RetB (.bool true) W)
    exact names_walk s v1 zl W rl wl
theorem schemaNames_holds : Rows.SchemaNamesSaid :=
  OpenClaim.holds_of_wide 3 Try.f3 rfl rfl rfl rfl rfl rfl rfl ⟨rfl, rfl, rfl, rfl, rfl⟩ rfl rfl rfl rfl rfl (by kernel_rfl) Try.func3 (by kernel_rfl)
    (of_decide_eq_true (by kernel_rfl)) (by unfold Func.isWrapper; first | (rw [if_pos (by decide +kernel)]; kernel_rfl) | (rw [if_neg (by decide +kernel)]; exact ⟨rfl, rfl⟩))
    (fun os started H enc _ => schemaNames_lifted os started H enc)
end Go.Proofs.Ytfkdenlpailmeaa
