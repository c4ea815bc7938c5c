/- The statements of layer 2, each out of the contracts. -/
import Derived.Test.YtnlbfanbgicmgaaBitW7
namespace Go.BP
open Go.RowKit Go.VB
/-- Lists of eight numbers can be packed one after the other. -/
theorem packed_append {x y : List Nat} {w : Nat} (h8 : x.length % 8 = 0) (hx : ∀ a ∈ x, a < 2 ^ w) (hy : ∀ a ∈ y, a < 2 ^ w) : packed (x ++ y) w = packed x w ++ packed y w := by
  obtain ⟨t, ht⟩ : ∃ t, x.length = 8 * t := ⟨x.length / 8, by omega⟩
  have hp : x.length * w = 8 * (t * w) := by rw [ht, Nat.mul_assoc]
  have e1 : (x.length * w + 7) / 8 = t * w := by rw [hp]; omega
  have e2 : ((x ++ y).length * w + 7) / 8 = t * w + (y.length * w + 7) / 8 := by rw [List.length_append, Nat.add_mul, hp]; omega
  have hA := big_lt hx
  have hB := big_lt hy
  have hA2 : big w x < 2 ^ (8 * (t * w)) := by rw [← hp, Nat.mul_comm]; exact hA
  have hB2 : big w y < 2 ^ (8 * ((y.length * w + 7) / 8)) := Nat.lt_of_lt_of_le hB (Nat.pow_le_pow_right (by decide) (by rw [Nat.mul_comm]; omega))
  unfold packed
  rw [e1, e2, ← List.map_append]
  congr 1
  symm
  refine digs_of ?_ (by rw [List.length_append, digs_len, digs_len]) ?_
  · intro a ha
    rcases List.mem_append.1 ha with h | h
    · exact digs_lt _ _ _ a h
    · exact digs_lt _ _ _ a h
  · rw [big_append, big_digs, big_digs, digs_len, Nat.mod_eq_of_lt hA2, Nat.mod_eq_of_lt hB2, big_append, Nat.mul_comm w x.length, hp]
end Go.BP
namespace Go.Proofs.Ytnlbfanbgicmgaa
open Go.RowKit Go.VB Go.VarM Go.BP Go.ChangeShapes Go.WideShapes Go.ChangeAt
open Go.ChangeMaps (open_string)
set_option linter.constructorNameAsVariable false
theorem Try.own : ownKnob Try.prog.godebug = none := by kernel_rfl
theorem Try.laidOut : laidOutB Try.prog = true := by kernel_rfl
theorem shr_bd2 (v : Int) (h0 : 0 ≤ v) (h1 : v ≤ 18446744073709551615) (k : Nat) : 0 ≤ v / 2 ^ k ∧ v / 2 ^ k ≤ 18446744073709551615 := by
  have hp : (0 : Int) < 2 ^ k := Int.pow_pos (by decide)
  exact ⟨Int.ediv_nonneg h0 (Int.le_of_lt hp), Int.le_trans (Int.ediv_le_self _ h0) h1⟩

theorem wid300 : wid 300 = 9 := by
  have h1 := wid_le 9 300
  have h2 := wid_le 8 300
  simp at h1 h2
  omega

set_option maxRecDepth 100000 in
set_option maxHeartbeats 4000000 in
theorem bitpackExamples_lifted (os : Os) (started : os.Started) (H : Type) (enc : TypeId × Value → H) :
    ReturnsInHanded {} Try.checked os 4 .any (Rows.bitpackExamplesSpec.pre6 enc Try.prog Try.f4 Rows.bitpackExamplesRow.domain false) (Rows.bitpackExamplesSpec.post enc Try.prog Try.f4 false true false false) := by
  refine law_lifted (C := Try.checked) (tb := 4) started Try.own Try.laidOut (by kernel_rfl) Try.func4
    (ChangeSpec.witness6 (enc := enc) (C := Try.checked) false ⟨#[], #[], []⟩ 8 (by kernel_rfl) (by kernel_rfl) (by kernel_rfl) (by kernel_rfl))
    rfl rfl Try.underlying4 (by kernel_rfl) (fun ds h => ?_) (fun W base args ds p hval0 hA0 hsz0 hlt => ?_)
  · have h' : ds.length = Try.f4.params.toList.length := h
    rw [Try.params4] at h'
    match ds, h' with
    | [], _ => rfl
  · have hval : ∀ (j : Nat) t v, Try.f4.params[j]? = some t → args[j]? = some v → Value.okWide Try.prog W .any base t v := hval0
    have hA : DataW.TrodAll enc Try.prog W 0 (fun _ => true) true Try.f4.params.toList args.toList ds p := hA0
    have hsz : (DataW.weightsEach Try.prog Try.f4.params.toList ds).all (· ≤ reachBytes) = true := hsz0
    rw [Try.params4] at hA hval hsz
    clear hA0 hval0 hsz0
    obtain ⟨hargs, rfl, rfl⟩ := trodAll_nil hA
    obtain rfl : args = #[] := by cases args; simp_all
    change Calls Try.prog 4 #[] W (RetB (.bool true) W)
    have hw := fun w => bwidth_any 300 w (by decide)
    rw [wid300] at hw
    have HW := fun w => Lib.hid (hw w); clear hw
    have hn := fun w => bneed_any 3 2 w
    rw [show needN 3 2 = 1 from by decide] at hn
    have HN := fun w => Lib.hid (hn w); clear hn
    go_enter Try.func4, Try.ntmps4
    go_wp2_with fail
    refine (bpack_eq _ _ 2 _ _ (RdN.three _ _ _ (by decide) (by decide)) (by simp) (by decide) packed123).mono ?_
    rintro e w' ⟨rfl, hb⟩
    have hb' := ((Below.refl W.heap.size W).alloc (Nat.le_refl _) (.cells #[.int .u64 1, .int .u64 2, .int .u64 3] 23)).trans (hb.mono (by simp))
    clear hb
    go_wp2_with (first
      | (go_at_call 15; refine (HW _).out.mono ?_; rintro e w' ⟨rfl, rfl⟩)
      | (go_at_call 16; refine (HN _).out.mono ?_; rintro e w' ⟨rfl, rfl⟩))
    go_ret
    exact RetB.mk rfl hb'
theorem bitpackExamples_holds : Rows.BitpackExamplesSaid :=
  OpenClaim.holds_of_wide 4 Try.f4 rfl rfl rfl rfl rfl rfl rfl ⟨rfl, rfl, rfl, rfl, rfl⟩ rfl rfl rfl rfl rfl (by kernel_rfl) Try.func4 (by kernel_rfl)
    (of_decide_eq_true (by kernel_rfl)) (by unfold Func.isWrapper; first | (rw [if_pos (by decide +kernel)]; kernel_rfl) | (rw [if_neg (by decide +kernel)]; exact ⟨rfl, rfl⟩))
    (fun os started H enc _ => bitpackExamples_lifted os started H enc)

set_option maxRecDepth 100000 in
set_option maxHeartbeats 4000000 in
theorem bitpackWidths_lifted (os : Os) (started : os.Started) (H : Type) (enc : TypeId × Value → H) :
    ReturnsInHanded {} Try.checked os 5 .any (Rows.bitpackWidthsSpec.pre6 enc Try.prog Try.f5 Rows.bitpackWidthsRow.domain false) (Rows.bitpackWidthsSpec.post enc Try.prog Try.f5 false true false false) := by
  refine law_lifted (C := Try.checked) (tb := 4) started Try.own Try.laidOut (by kernel_rfl) Try.func5
    (ChangeSpec.witness6 (enc := enc) (C := Try.checked) false ⟨#[], #[.int .u64 0, .int .u8 0, .int .i64 0, .int .i64 0], []⟩ 8 (by kernel_rfl) (by kernel_rfl) (by kernel_rfl) (by kernel_rfl))
    rfl rfl Try.underlying4 (by kernel_rfl) (fun ds h => ?_) (fun W base args ds p hval0 hA0 hsz0 hlt => ?_)
  · have h' : ds.length = Try.f5.params.toList.length := h
    rw [Try.params5] at h'
    match ds, h' with
    | [_, _, _, _], _ => rfl
  · have hval : ∀ (j : Nat) t v, Try.f5.params[j]? = some t → args[j]? = some v → Value.okWide Try.prog W .any base t v := hval0
    have hA : DataW.TrodAll enc Try.prog W 0 (fun _ => true) true Try.f5.params.toList args.toList ds p := hA0
    have hsz : (DataW.weightsEach Try.prog Try.f5.params.toList ds).all (· ≤ reachBytes) = true := hsz0
    rw [Try.params5] at hA hval hsz
    clear hA0 hval0 hsz0
    obtain ⟨v0, vs0, d0, ds0, p0, q0, hargs, rfl, rfl, h0, r0⟩ := trodAll_cons hA
    obtain ⟨v1, vs1, d1, ds1, p1, q1, rfl, rfl, rfl, h1, r1⟩ := trodAll_cons r0
    obtain ⟨v2, vs2, d2, ds2, p2, q2, rfl, rfl, rfl, h2, r2⟩ := trodAll_cons r1
    obtain ⟨v3, vs3, d3, ds3, p3, q3, rfl, rfl, rfl, h3, r3⟩ := trodAll_cons r2
    obtain ⟨rfl, rfl, rfl⟩ := trodAll_nil r3
    obtain rfl : args = #[v0, v1, v2, v3] := by cases args; simp_all
    obtain ⟨v, rfl, rfl, rfl, wv⟩ := open_int Try.underlying23 (hval 0 23 v0 rfl rfl) h0
    obtain ⟨sh, rfl, rfl, rfl, wsh⟩ := open_int Try.underlying5 (hval 1 5 v1 rfl rfl) h1
    obtain ⟨n, rfl, rfl, rfl, wn⟩ := open_int Try.underlying3 (hval 2 3 v2 rfl rfl) h2
    obtain ⟨k, rfl, rfl, rfl, wk⟩ := open_int Try.underlying3 (hval 3 3 v3 rfl rfl) h3
    change Calls Try.prog 5 #[.int .u64 v, .int .u8 sh, .int .i64 n, .int .i64 k] W (RetB (.bool true) W)
    obtain ⟨v1, v2⟩ := bounds_u64 wv
    obtain ⟨s1, s2⟩ := bounds_u8 wsh
    obtain ⟨x1, x2⟩ := shr_bd2 v v1 v2 (sh % 64).toNat
    have hB := Below.refl W.heap.size W
    have ha := pickN_bd n (n := 4099) (by decide)
    have hb := pickN_bd k (n := 68) (by decide)
    have HPN := fun w => Lib.hid (pick_at n 4099 w wn (by decide) (by decide))
    have HPK := fun w => Lib.hid (pick_at k 68 w wk (by decide) (by decide))
    generalize pickN n 4099 = a at *
    generalize pickN k 68 = b at *
    obtain ⟨a1, a2⟩ := ha
    obtain ⟨b1, b2⟩ := hb
    go_enter Try.func5, Try.ntmps5
    go_wp2_with fail
    generalize v / 2 ^ (sh % 64).toNat = x at *
    refine (HPN _).out.mono ?_; rintro e w' ⟨rfl, rfl⟩
    go_wp2_with fail
    refine (HPK _).out.mono ?_; rintro e w' ⟨rfl, rfl⟩
    clear HPN HPK
    go_wp2_with (first
      | (go_at_call 18; refine (awake2_any _).mono ?_; rintro e w1 ⟨rfl, hb1⟩; replace hB := bel_trans hB hb1; clear hb1)
      | (go_at_call 15; refine (bwidth_int _ _ (by omega) (by omega)).mono ?_; rintro e w' ⟨rfl, rfl⟩)
      | (go_at_call 19; refine (rwidth_int _ _ (by omega) (by omega)).mono ?_; rintro e w' ⟨rfl, rfl⟩)
      | (go_at_call 16; refine (bneed_any _ _ _).mono ?_; rintro e w' ⟨rfl, rfl⟩)
      | (go_at_call 20; refine (rneed_any _ _ _).mono ?_; rintro e w' ⟨rfl, rfl⟩))
    go_ret
    exact RetB.mk rfl ‹_›
theorem bitpackWidths_holds : Rows.BitpackWidthsSaid :=
  OpenClaim.holds_of_wide 5 Try.f5 rfl rfl rfl rfl rfl rfl rfl ⟨rfl, rfl, rfl, rfl, rfl⟩ rfl rfl rfl rfl rfl (by kernel_rfl) Try.func5 (by kernel_rfl)
    (of_decide_eq_true (by kernel_rfl)) (by unfold Func.isWrapper; first | (rw [if_pos (by decide +kernel)]; kernel_rfl) | (rw [if_neg (by decide +kernel)]; exact ⟨rfl, rfl⟩))
    (fun os started H enc _ => bitpackWidths_lifted os started H enc)

end Go.Proofs.Ytnlbfanbgicmgaa
