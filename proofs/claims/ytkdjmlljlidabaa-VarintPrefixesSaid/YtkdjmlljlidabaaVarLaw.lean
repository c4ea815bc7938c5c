/- The statements of layer 1, each out of the contracts. -/
import Derived.Test.YtkdjmlljlidabaaVarRef
namespace Go.Proofs.Ytkdjmlljlidabaa
open Go.RowKit Go.VB Go.VarM Go.ChangeShapes Go.WideShapes Go.ChangeAt
open Go.ChangeMaps (open_string)

theorem Try.own : ownKnob Try.prog.godebug = none := by kernel_rfl
theorem Try.laidOut : laidOutB Try.prog = true := by kernel_rfl

set_option maxHeartbeats 1000000 in
theorem zigzag_walk (n v : Int) (w : World) (hn : (Lit.int .i64 n).wf = true) (hv : (Lit.int .u64 v).wf = true) :
    Calls Try.prog 9 #[.int .i64 n, .int .u64 v] w (RetB (.bool true) w) := by
  obtain ⟨n1, n2⟩ := bounds_i64 hn
  obtain ⟨v1, v2⟩ := bounds_u64 hv
  obtain ⟨z1, z2⟩ := zig_bd n1 n2
  obtain ⟨g1, g2⟩ := zag_bd v1 v2
  have e1 := zag_zig n
  have e2 := zig_zag v1
  have e3 := zig_odd n
  go_enter Try.func9, Try.ntmps9
  go_wp2_with (first
    | (go_at_call 15; refine (awake_any _).mono ?_; rintro e w1 ⟨rfl, hb⟩)
    | (go_at_call 13; refine (vzig_any _ _ (by omega) (by omega)).mono ?_; rintro e w' ⟨rfl, rfl⟩)
    | (go_at_call 14; refine (vzag_any _ _ (by omega) (by omega)).mono ?_; rintro e w' ⟨rfl, rfl⟩)
    | (go_at_call 19; refine (rzig_any _ _ (by omega) (by omega)).mono ?_; rintro e w' ⟨rfl, rfl⟩)
    | (go_at_call 20; refine (rzag_any _ _ (by omega) (by omega)).mono ?_; rintro e w' ⟨rfl, rfl⟩))
  go_ret
  exact RetB.mk rfl ‹_›
set_option maxRecDepth 100000 in
set_option maxHeartbeats 4000000 in
theorem varintZigZag_lifted (os : Os) (started : os.Started) (H : Type) (enc : TypeId × Value → H) :
    ReturnsInHanded {} Try.checked os 9 .any (Rows.varintZigZagSpec.pre6 enc Try.prog Try.f9 Rows.varintZigZagRow.domain false) (Rows.varintZigZagSpec.post enc Try.prog Try.f9 false true false false) := by
  refine law_lifted (C := Try.checked) (tb := 4) started Try.own Try.laidOut (by kernel_rfl) Try.func9
    (ChangeSpec.witness6 (enc := enc) (C := Try.checked) false ⟨#[], #[.int .i64 0, .int .u64 0], []⟩ 8 (by kernel_rfl) (by kernel_rfl) (by kernel_rfl) (by kernel_rfl))
    rfl rfl Try.underlying4 (by kernel_rfl) (fun ds h => ?_) (fun W base args ds p hval0 hA0 hsz0 hlt => ?_)
  · have h' : ds.length = Try.f9.params.toList.length := h
    rw [Try.params9] at h'
    match ds, h' with
    | [_, _], _ => rfl
  · have hval : ∀ (j : Nat) t v, Try.f9.params[j]? = some t → args[j]? = some v → Value.okWide Try.prog W .any base t v := hval0
    have hA : DataW.TrodAll enc Try.prog W 0 (fun _ => true) true Try.f9.params.toList args.toList ds p := hA0
    have hsz : (DataW.weightsEach Try.prog Try.f9.params.toList ds).all (· ≤ reachBytes) = true := hsz0
    rw [Try.params9] at hA hval hsz
    clear hA0 hval0 hsz0
    obtain ⟨v0, vs0, d0, ds0, p0, q0, hargs, rfl, rfl, h0, r0⟩ := trodAll_cons hA
    obtain ⟨v1, vs1, d1, ds1, p1, q1, rfl, rfl, rfl, h1, r1⟩ := trodAll_cons r0
    obtain ⟨rfl, rfl, rfl⟩ := trodAll_nil r1
    obtain rfl : args = #[v0, v1] := by cases args; simp_all
    obtain ⟨n, rfl, rfl, rfl, wn⟩ := open_int Try.underlying2 (hval 0 2 v0 rfl rfl) h0
    obtain ⟨v, rfl, rfl, rfl, wv⟩ := open_int Try.underlying22 (hval 1 22 v1 rfl rfl) h1
    change Calls Try.prog 9 #[.int .i64 n, .int .u64 v] W (RetB (.bool true) W)
    exact zigzag_walk n v W wn wv
theorem varintZigZag_holds : Rows.VarintZigZagSaid :=
  OpenClaim.holds_of_wide 9 Try.f9 rfl rfl rfl rfl rfl rfl rfl ⟨rfl, rfl, rfl, rfl, rfl⟩ rfl rfl rfl rfl rfl (by kernel_rfl) Try.func9 (by kernel_rfl)
    (of_decide_eq_true (by kernel_rfl)) (by unfold Func.isWrapper; first | (rw [if_pos (by decide +kernel)]; kernel_rfl) | (rw [if_neg (by decide +kernel)]; exact ⟨rfl, rfl⟩))
    (fun os started H enc _ => varintZigZag_lifted os started H enc)

/-- A shift to the right by less than 64. -/
theorem shr_bd (v : Int) (h0 : 0 ≤ v) (h1 : v ≤ 18446744073709551615) (k : Nat) : 0 ≤ v / 2 ^ k ∧ v / 2 ^ k ≤ 18446744073709551615 := by
  have hp : (0 : Int) < 2 ^ k := Int.pow_pos (by decide)
  exact ⟨Int.ediv_nonneg h0 (Int.le_of_lt hp), Int.le_trans (Int.ediv_le_self _ h0) h1⟩

/-! The contracts as the walks of the statements offer them: an argument is any number in its range. -/
theorem vput_int (x : Int) (w : World) (h0 : 0 ≤ x) (h1 : x ≤ 18446744073709551615) : Calls Try.prog 12 #[.int .u64 x] w (RetB (.string (str (putL x.toNat))) w) := by
  obtain ⟨n, rfl⟩ := Int.eq_ofNat_of_zero_le h0
  exact vput_any n w (by omega)
theorem vsize_int (x : Int) (w : World) (h0 : 0 ≤ x) (h1 : x ≤ 18446744073709551615) : Calls Try.prog 17 #[.int .u64 x] w (Ret (.int .i64 ((putL x.toNat).length : Nat)) w) := by
  obtain ⟨n, rfl⟩ := Int.eq_ofNat_of_zero_le h0
  exact vsize_any n w (by omega)
theorem rput_int (x : Int) (w : World) (h0 : 0 ≤ x) (h1 : x ≤ 18446744073709551615) : Calls Try.prog 16 #[.int .u64 x] w (RetB (.string (str (putL x.toNat))) w) := by
  obtain ⟨n, rfl⟩ := Int.eq_ofNat_of_zero_le h0
  exact rput_any n w (by omega)
theorem vget_tup (s : ByteArray) (i : Int) (w : World) (hs : s.size ≤ maxLen) :
    Calls Try.prog 11 #[.string s, .int .i64 i] w (Ret (.tuple #[.int .u64 ((getR s i).1 : Nat), .int .i64 (getR s i).2.1, .int .i64 ((getR s i).2.2 : Nat)]) w) := vget_any s i w hs
theorem vget_eq (s : ByteArray) (i : Int) (w : World) (hs : s.size ≤ maxLen) {a : Nat} {b : Int} {c : Nat} (h : getR s i = (a, b, c)) :
    Calls Try.prog 11 #[.string s, .int .i64 i] w (Ret (.tuple #[.int .u64 (a : Int), .int .i64 b, .int .i64 (c : Int)]) w) := by
  have := vget_any s i w hs
  rw [h] at this
  exact this
theorem rget_tup (s : ByteArray) (i : Int) (w : World) (hs : s.size ≤ maxLen) :
    Calls Try.prog 18 #[.string s, .int .i64 i] w (Ret (.tuple #[.int .u64 ((getR s i).1 : Nat), .int .i64 (getR s i).2.1, .int .i64 ((getR s i).2.2 : Nat)]) w) := rget_any s i w hs
theorem getR_nat {s : ByteArray} {k : Nat} (h : k ≤ s.size) {a b c : Nat} (hg : getL (s.data.toList.drop k) = (a, b, c)) : getR s k = if c = 0 then (a, (k : Int) + b, 0) else (0, 0, c) := getR_in h hg

set_option maxRecDepth 100000 in
set_option maxHeartbeats 4000000 in
theorem varintExamples_lifted (os : Os) (started : os.Started) (H : Type) (enc : TypeId × Value → H) :
    ReturnsInHanded {} Try.checked os 3 .any (Rows.varintExamplesSpec.pre6 enc Try.prog Try.f3 Rows.varintExamplesRow.domain false) (Rows.varintExamplesSpec.post enc Try.prog Try.f3 false true false false) := by
  refine law_lifted (C := Try.checked) (tb := 4) started Try.own Try.laidOut (by kernel_rfl) Try.func3
    (ChangeSpec.witness6 (enc := enc) (C := Try.checked) false ⟨#[], #[], []⟩ 8 (by kernel_rfl) (by kernel_rfl) (by kernel_rfl) (by kernel_rfl))
    rfl rfl Try.underlying4 (by kernel_rfl) (fun ds h => ?_) (fun W base args ds p hval0 hA0 hsz0 hlt => ?_)
  · have h' : ds.length = Try.f3.params.toList.length := h
    rw [Try.params3] at h'
    match ds, h' with
    | [], _ => rfl
  · have hval : ∀ (j : Nat) t v, Try.f3.params[j]? = some t → args[j]? = some v → Value.okWide Try.prog W .any base t v := hval0
    have hA : DataW.TrodAll enc Try.prog W 0 (fun _ => true) true Try.f3.params.toList args.toList ds p := hA0
    have hsz : (DataW.weightsEach Try.prog Try.f3.params.toList ds).all (· ≤ reachBytes) = true := hsz0
    rw [Try.params3] at hA hval hsz
    clear hA0 hval0 hsz0
    obtain ⟨hargs, rfl, rfl⟩ := trodAll_nil hA
    obtain rfl : args = #[] := by cases args; simp_all
    change Calls Try.prog 3 #[] W (RetB (.bool true) W)
    have hg : getR ⟨#[172, 2]⟩ 0 = (300, 2, 0) := by decide +kernel
    have G := fun w => Lib.hid (vget_eq ⟨#[172, 2]⟩ 0 w (by decide) hg)
    have hp := fun w => vput_any 300 w (by omega)
    rw [putL300] at hp
    have HP := fun w => Lib.hid (hp w)
    have e1 : zigN (-1) = 1 := by decide
    have e2 : zigN 1 = 2 := by decide
    have e3 : zagN 3 = -2 := by decide
    clear hg hp
    go_enter Try.func3, Try.ntmps3
    go_wp2_with (first
      | (go_at_call 11; refine (G _).out.mono ?_; rintro e w' ⟨rfl, rfl⟩)
      | (go_at_call 12; refine (HP _).out.mono ?_; rintro e w1 ⟨rfl, hb⟩)
      | (go_at_call 13; refine (vzig_any _ _ (by omega) (by omega)).mono ?_; rintro e w' ⟨rfl, rfl⟩)
      | (go_at_call 14; refine (vzag_any _ _ (by omega) (by omega)).mono ?_; rintro e w' ⟨rfl, rfl⟩))
    go_ret
    exact RetB.mk rfl ‹_›
theorem varintExamples_holds : Rows.VarintExamplesSaid :=
  OpenClaim.holds_of_wide 3 Try.f3 rfl rfl rfl rfl rfl rfl rfl ⟨rfl, rfl, rfl, rfl, rfl⟩ rfl rfl rfl rfl rfl (by kernel_rfl) Try.func3 (by kernel_rfl)
    (of_decide_eq_true (by kernel_rfl)) (by unfold Func.isWrapper; first | (rw [if_pos (by decide +kernel)]; kernel_rfl) | (rw [if_neg (by decide +kernel)]; exact ⟨rfl, rfl⟩))
    (fun os started H enc _ => varintExamples_lifted os started H enc)

set_option maxRecDepth 100000 in
set_option maxHeartbeats 4000000 in
theorem varintPuts_lifted (os : Os) (started : os.Started) (H : Type) (enc : TypeId × Value → H) :
    ReturnsInHanded {} Try.checked os 4 .any (Rows.varintPutsSpec.pre6 enc Try.prog Try.f4 Rows.varintPutsRow.domain false) (Rows.varintPutsSpec.post enc Try.prog Try.f4 false true false false) := by
  refine law_lifted (C := Try.checked) (tb := 4) started Try.own Try.laidOut (by kernel_rfl) Try.func4
    (ChangeSpec.witness6 (enc := enc) (C := Try.checked) false ⟨#[], #[.int .u64 0, .int .u8 0], []⟩ 8 (by kernel_rfl) (by kernel_rfl) (by kernel_rfl) (by kernel_rfl))
    rfl rfl Try.underlying4 (by kernel_rfl) (fun ds h => ?_) (fun W base args ds p hval0 hA0 hsz0 hlt => ?_)
  · have h' : ds.length = Try.f4.params.toList.length := h
    rw [Try.params4] at h'
    match ds, h' with
    | [_, _], _ => rfl
  · have hval : ∀ (j : Nat) t v, Try.f4.params[j]? = some t → args[j]? = some v → Value.okWide Try.prog W .any base t v := hval0
    have hA : DataW.TrodAll enc Try.prog W 0 (fun _ => true) true Try.f4.params.toList args.toList ds p := hA0
    have hsz : (DataW.weightsEach Try.prog Try.f4.params.toList ds).all (· ≤ reachBytes) = true := hsz0
    rw [Try.params4] at hA hval hsz
    clear hA0 hval0 hsz0
    obtain ⟨v0, vs0, d0, ds0, p0, q0, hargs, rfl, rfl, h0, r0⟩ := trodAll_cons hA
    obtain ⟨v1, vs1, d1, ds1, p1, q1, rfl, rfl, rfl, h1, r1⟩ := trodAll_cons r0
    obtain ⟨rfl, rfl, rfl⟩ := trodAll_nil r1
    obtain rfl : args = #[v0, v1] := by cases args; simp_all
    obtain ⟨v, rfl, rfl, rfl, wv⟩ := open_int Try.underlying22 (hval 0 22 v0 rfl rfl) h0
    obtain ⟨sh, rfl, rfl, rfl, wsh⟩ := open_int Try.underlying5 (hval 1 5 v1 rfl rfl) h1
    change Calls Try.prog 4 #[.int .u64 v, .int .u8 sh] W (RetB (.bool true) W)
    obtain ⟨v1, v2⟩ := bounds_u64 wv
    obtain ⟨s1, s2⟩ := bounds_u8 wsh
    obtain ⟨x1, x2⟩ := shr_bd v v1 v2 (sh % 64).toNat
    have hB := Below.refl W.heap.size W
    go_enter Try.func4, Try.ntmps4
    go_wp2_with fail
    generalize v / 2 ^ (sh % 64).toNat = x at *
    have hss := str_size (putL x.toNat)
    go_wp2_with (first
      | (go_at_call 15; refine (awake_any _).mono ?_; rintro e w1 ⟨rfl, hb1⟩; replace hB := bel_trans hB hb1; clear hb1)
      | (go_at_call 12; refine (vput_int _ _ (by omega) (by omega)).mono ?_; rintro e w2 ⟨rfl, hb2⟩; replace hB := bel_trans hB hb2; clear hb2)
      | (go_at_call 17; refine (vsize_int _ _ (by omega) (by omega)).mono ?_; rintro e w' ⟨rfl, rfl⟩)
      | (go_at_call 16; refine (rput_int _ _ (by omega) (by omega)).mono ?_; rintro e w3 ⟨rfl, hb3⟩; replace hB := bel_trans hB hb3; clear hb3))
    go_ret
    exact RetB.mk rfl ‹_›
theorem varintPuts_holds : Rows.VarintPutsSaid :=
  OpenClaim.holds_of_wide 4 Try.f4 rfl rfl rfl rfl rfl rfl rfl ⟨rfl, rfl, rfl, rfl, rfl⟩ rfl rfl rfl rfl rfl (by kernel_rfl) Try.func4 (by kernel_rfl)
    (of_decide_eq_true (by kernel_rfl)) (by unfold Func.isWrapper; first | (rw [if_pos (by decide +kernel)]; kernel_rfl) | (rw [if_neg (by decide +kernel)]; exact ⟨rfl, rfl⟩))
    (fun os started H enc _ => varintPuts_lifted os started H enc)

set_option maxRecDepth 100000 in
set_option maxHeartbeats 4000000 in
theorem varintGets_lifted (os : Os) (started : os.Started) (H : Type) (enc : TypeId × Value → H) :
    ReturnsInHanded {} Try.checked os 5 .any (Rows.varintGetsSpec.pre6 enc Try.prog Try.f5 Rows.varintGetsRow.domain false) (Rows.varintGetsSpec.post enc Try.prog Try.f5 false true false false) := by
  refine law_lifted (C := Try.checked) (tb := 4) started Try.own Try.laidOut (by kernel_rfl) Try.func5
    (ChangeSpec.witness6 (enc := enc) (C := Try.checked) false ⟨#[], #[.string ⟨#[]⟩, .int .i64 0, .bool false], []⟩ 8 (by kernel_rfl) (by kernel_rfl) (by kernel_rfl) (by kernel_rfl))
    rfl rfl Try.underlying4 (by kernel_rfl) (fun ds h => ?_) (fun W base args ds p hval0 hA0 hsz0 hlt => ?_)
  · have h' : ds.length = Try.f5.params.toList.length := h
    rw [Try.params5] at h'
    match ds, h' with
    | [_, _, _], _ => rfl
  · have hval : ∀ (j : Nat) t v, Try.f5.params[j]? = some t → args[j]? = some v → Value.okWide Try.prog W .any base t v := hval0
    have hA : DataW.TrodAll enc Try.prog W 0 (fun _ => true) true Try.f5.params.toList args.toList ds p := hA0
    have hsz : (DataW.weightsEach Try.prog Try.f5.params.toList ds).all (· ≤ reachBytes) = true := hsz0
    rw [Try.params5] at hA hval hsz
    clear hA0 hval0 hsz0
    obtain ⟨v0, vs0, d0, ds0, p0, q0, hargs, rfl, rfl, h0, r0⟩ := trodAll_cons hA
    obtain ⟨v1, vs1, d1, ds1, p1, q1, rfl, rfl, rfl, h1, r1⟩ := trodAll_cons r0
    obtain ⟨v2, vs2, d2, ds2, p2, q2, rfl, rfl, rfl, h2, r2⟩ := trodAll_cons r1
    obtain ⟨rfl, rfl, rfl⟩ := trodAll_nil r2
    obtain rfl : args = #[v0, v1, v2] := by cases args; simp_all
    obtain ⟨s, rfl, rfl, rfl, _⟩ := open_string Try.underlying9 (hval 0 9 v0 rfl rfl) h0
    have zs : s.size ≤ 140737488351232 := by have h := sized_string hsz (j := 0) (t := 9) rfl rfl; rw [size_list] at h; exact h
    obtain ⟨i, rfl, rfl, rfl, wi⟩ := open_int Try.underlying3 (hval 1 3 v1 rfl rfl) h1
    obtain ⟨near, rfl, rfl, rfl⟩ := open_bool Try.underlying4 (hval 2 4 v2 rfl rfl) h2
    change Calls Try.prog 5 #[.string s, .int .i64 i, .bool near] W (RetB (.bool true) W)
    obtain ⟨i1, i2⟩ := bounds_i64 wi
    cases near
    all_goals
      go_enter Try.func5, Try.ntmps5
      go_wp2_with (first
        | (go_at_call 15; refine (awake_any _).mono ?_; rintro e w1 ⟨rfl, hb⟩)
        | (go_at_call 11; refine (vget_tup _ _ _ (by unfold maxLen; omega)).mono ?_; rintro e w' ⟨rfl, rfl⟩)
        | (go_at_call 18; refine (rget_tup _ _ _ (by unfold maxLen; omega)).mono ?_; rintro e w' ⟨rfl, rfl⟩))
      go_ret
      exact RetB.mk rfl ‹_›
theorem varintGets_holds : Rows.VarintGetsSaid :=
  OpenClaim.holds_of_wide 5 Try.f5 rfl rfl rfl rfl rfl rfl rfl ⟨rfl, rfl, rfl, rfl, rfl⟩ rfl rfl rfl rfl rfl (by kernel_rfl) Try.func5 (by kernel_rfl)
    (of_decide_eq_true (by kernel_rfl)) (by unfold Func.isWrapper; first | (rw [if_pos (by decide +kernel)]; kernel_rfl) | (rw [if_neg (by decide +kernel)]; exact ⟨rfl, rfl⟩))
    (fun os started H enc _ => varintGets_lifted os started H enc)

set_option maxRecDepth 100000 in
set_option maxHeartbeats 4000000 in
theorem varintRoundTrip_lifted (os : Os) (started : os.Started) (H : Type) (enc : TypeId × Value → H) :
    ReturnsInHanded {} Try.checked os 6 .any (Rows.varintRoundTripSpec.pre6 enc Try.prog Try.f6 Rows.varintRoundTripRow.domain false) (Rows.varintRoundTripSpec.post enc Try.prog Try.f6 false true false false) := by
  refine law_lifted (C := Try.checked) (tb := 4) started Try.own Try.laidOut (by kernel_rfl) Try.func6
    (ChangeSpec.witness6 (enc := enc) (C := Try.checked) false ⟨#[], #[.int .u64 0, .int .u8 0, .string ⟨#[]⟩, .string ⟨#[]⟩], []⟩ 8 (by kernel_rfl) (by kernel_rfl) (by kernel_rfl) (by kernel_rfl))
    rfl rfl Try.underlying4 (by kernel_rfl) (fun ds h => ?_) (fun W base args ds p hval0 hA0 hsz0 hlt => ?_)
  · have h' : ds.length = Try.f6.params.toList.length := h
    rw [Try.params6] at h'
    match ds, h' with
    | [_, _, _, _], _ => rfl
  · have hval : ∀ (j : Nat) t v, Try.f6.params[j]? = some t → args[j]? = some v → Value.okWide Try.prog W .any base t v := hval0
    have hA : DataW.TrodAll enc Try.prog W 0 (fun _ => true) true Try.f6.params.toList args.toList ds p := hA0
    have hsz : (DataW.weightsEach Try.prog Try.f6.params.toList ds).all (· ≤ reachBytes) = true := hsz0
    rw [Try.params6] at hA hval hsz
    clear hA0 hval0 hsz0
    obtain ⟨v0, vs0, d0, ds0, p0, q0, hargs, rfl, rfl, h0, r0⟩ := trodAll_cons hA
    obtain ⟨v1, vs1, d1, ds1, p1, q1, rfl, rfl, rfl, h1, r1⟩ := trodAll_cons r0
    obtain ⟨v2, vs2, d2, ds2, p2, q2, rfl, rfl, rfl, h2, r2⟩ := trodAll_cons r1
    obtain ⟨v3, vs3, d3, ds3, p3, q3, rfl, rfl, rfl, h3, r3⟩ := trodAll_cons r2
    obtain ⟨rfl, rfl, rfl⟩ := trodAll_nil r3
    obtain rfl : args = #[v0, v1, v2, v3] := by cases args; simp_all
    obtain ⟨v, rfl, rfl, rfl, wv⟩ := open_int Try.underlying22 (hval 0 22 v0 rfl rfl) h0
    obtain ⟨sh, rfl, rfl, rfl, wsh⟩ := open_int Try.underlying5 (hval 1 5 v1 rfl rfl) h1
    obtain ⟨before, rfl, rfl, rfl, _⟩ := open_string Try.underlying9 (hval 2 9 v2 rfl rfl) h2
    have zbefore : before.size ≤ 140737488351232 := by have h := sized_string hsz (j := 2) (t := 9) rfl rfl; rw [size_list] at h; exact h
    obtain ⟨behind, rfl, rfl, rfl, _⟩ := open_string Try.underlying9 (hval 3 9 v3 rfl rfl) h3
    have zbehind : behind.size ≤ 140737488351232 := by have h := sized_string hsz (j := 3) (t := 9) rfl rfl; rw [size_list] at h; exact h
    change Calls Try.prog 6 #[.int .u64 v, .int .u8 sh, .string before, .string behind] W (RetB (.bool true) W)
    obtain ⟨v1, v2⟩ := bounds_u64 wv
    obtain ⟨s1, s2⟩ := bounds_u8 wsh
    obtain ⟨x1, x2⟩ := shr_bd v v1 v2 (sh % 64).toNat
    have hB := Below.refl W.heap.size W
    go_enter Try.func6, Try.ntmps6
    go_wp2_with fail
    generalize v / 2 ^ (sh % 64).toNat = x at *
    obtain ⟨n, rfl⟩ := Int.eq_ofNat_of_zero_le x1
    have hn : n < 18446744073709551616 := by omega
    have hss := str_size (putL n)
    have h10 := putL_len10 hn
    have hg : getR (before ++ str (putL n) ++ behind) (before.size : Nat) = (n, (before.size : Int) + (putL n).length, 0) := by
      rw [getR_nat (by simp; omega) (a := n) (b := (putL n).length) (c := 0)]
      · rfl
      · have e : (before ++ str (putL n) ++ behind).data.toList.drop before.size = putL n ++ behind.data.toList := by
          rw [ByteArray.append_assoc]
          have : (before ++ (str (putL n) ++ behind)).data.toList = before.data.toList ++ (putL n ++ behind.data.toList) := by
            simp [str]
          rw [this, ← size_list, List.drop_left]
        rw [e]
        exact getL_put hn _
    have hz : (before ++ str (putL n) ++ behind).size ≤ maxLen := by unfold maxLen; simp; omega
    have G := fun w => Lib.hid (vget_eq _ _ w hz hg)
    have hP := fun w => Lib.hid (vput_any n w hn)
    clear hg hz
    go_wp2_with (first
      | (go_at_call 12; refine (hP _).out.mono ?_; rintro e w2 ⟨rfl, hb2⟩; replace hB := bel_trans hB hb2; clear hb2)
      | (go_at_call 11; refine (G _).out.mono ?_; rintro e w' ⟨rfl, rfl⟩)
      | (go_at_call 15; refine (awake_any _).mono ?_; rintro e w1 ⟨rfl, hb1⟩; replace hB := bel_trans hB hb1; clear hb1))
    go_ret
    exact RetB.mk rfl ‹_›
theorem varintRoundTrip_holds : Rows.VarintRoundTripSaid :=
  OpenClaim.holds_of_wide 6 Try.f6 rfl rfl rfl rfl rfl rfl rfl ⟨rfl, rfl, rfl, rfl, rfl⟩ rfl rfl rfl rfl rfl (by kernel_rfl) Try.func6 (by kernel_rfl)
    (of_decide_eq_true (by kernel_rfl)) (by unfold Func.isWrapper; first | (rw [if_pos (by decide +kernel)]; kernel_rfl) | (rw [if_neg (by decide +kernel)]; exact ⟨rfl, rfl⟩))
    (fun os started H enc _ => varintRoundTrip_lifted os started H enc)

set_option maxRecDepth 100000 in
set_option maxHeartbeats 4000000 in
theorem varintPrefixes_lifted (os : Os) (started : os.Started) (H : Type) (enc : TypeId × Value → H) :
    ReturnsInHanded {} Try.checked os 7 .any (Rows.varintPrefixesSpec.pre6 enc Try.prog Try.f7 Rows.varintPrefixesRow.domain false) (Rows.varintPrefixesSpec.post enc Try.prog Try.f7 false true false false) := by
  refine law_lifted (C := Try.checked) (tb := 4) started Try.own Try.laidOut (by kernel_rfl) Try.func7
    (ChangeSpec.witness6 (enc := enc) (C := Try.checked) false ⟨#[], #[.int .u64 0, .int .u8 0, .int .u8 0], []⟩ 8 (by kernel_rfl) (by kernel_rfl) (by kernel_rfl) (by kernel_rfl))
    rfl rfl Try.underlying4 (by kernel_rfl) (fun ds h => ?_) (fun W base args ds p hval0 hA0 hsz0 hlt => ?_)
  · have h' : ds.length = Try.f7.params.toList.length := h
    rw [Try.params7] at h'
    match ds, h' with
    | [_, _, _], _ => rfl
  · have hval : ∀ (j : Nat) t v, Try.f7.params[j]? = some t → args[j]? = some v → Value.okWide Try.prog W .any base t v := hval0
    have hA : DataW.TrodAll enc Try.prog W 0 (fun _ => true) true Try.f7.params.toList args.toList ds p := hA0
    have hsz : (DataW.weightsEach Try.prog Try.f7.params.toList ds).all (· ≤ reachBytes) = true := hsz0
    rw [Try.params7] at hA hval hsz
    clear hA0 hval0 hsz0
    obtain ⟨v0, vs0, d0, ds0, p0, q0, hargs, rfl, rfl, h0, r0⟩ := trodAll_cons hA
    obtain ⟨v1, vs1, d1, ds1, p1, q1, rfl, rfl, rfl, h1, r1⟩ := trodAll_cons r0
    obtain ⟨v2, vs2, d2, ds2, p2, q2, rfl, rfl, rfl, h2, r2⟩ := trodAll_cons r1
    obtain ⟨rfl, rfl, rfl⟩ := trodAll_nil r2
    obtain rfl : args = #[v0, v1, v2] := by cases args; simp_all
    obtain ⟨v, rfl, rfl, rfl, wv⟩ := open_int Try.underlying22 (hval 0 22 v0 rfl rfl) h0
    obtain ⟨sh, rfl, rfl, rfl, wsh⟩ := open_int Try.underlying5 (hval 1 5 v1 rfl rfl) h1
    obtain ⟨cut, rfl, rfl, rfl, wcut⟩ := open_int Try.underlying5 (hval 2 5 v2 rfl rfl) h2
    change Calls Try.prog 7 #[.int .u64 v, .int .u8 sh, .int .u8 cut] W (RetB (.bool true) W)
    obtain ⟨v1, v2⟩ := bounds_u64 wv
    obtain ⟨s1, s2⟩ := bounds_u8 wsh
    obtain ⟨c1, c2⟩ := bounds_u8 wcut
    obtain ⟨x1, x2⟩ := shr_bd v v1 v2 (sh % 64).toNat
    obtain ⟨c, rfl⟩ := Int.eq_ofNat_of_zero_le c1
    have hB := Below.refl W.heap.size W
    go_enter Try.func7, Try.ntmps7
    go_wp2_with fail
    generalize v / 2 ^ (sh % 64).toNat = x at *
    obtain ⟨n, rfl⟩ := Int.eq_ofNat_of_zero_le x1
    have hn : n < 18446744073709551616 := by omega
    have hss := str_size (putL n)
    have h10 := putL_len10 hn
    have hp := putL_pos n
    have hk : c % (putL n).length < (putL n).length := Nat.mod_lt _ hp
    have hg : getR ((str (putL n)).extract 0 (c % (putL n).length)) 0 = (0, 0, 10) := by
      have := getR_nat (s := (str (putL n)).extract 0 (c % (putL n).length)) (k := 0) (by omega) (a := 0) (b := 0) (c := 10) (by
        rw [extract_list, List.drop_zero, List.drop_zero, Nat.sub_zero]
        exact getL_prefix hn hk)
      exact this
    have hz : ((str (putL n)).extract 0 (c % (putL n).length)).size ≤ maxLen := by unfold maxLen; simp; omega
    have G := fun w => Lib.hid (vget_eq _ _ w hz hg)
    have hP := fun w => Lib.hid (vput_any n w hn)
    clear hg hz
    go_wp2_with (first
      | (go_at_call 12; refine (hP _).out.mono ?_; rintro e w2 ⟨rfl, hb2⟩; replace hB := bel_trans hB hb2; clear hb2)
      | (go_at_call 11; refine (G _).out.mono ?_; rintro e w' ⟨rfl, rfl⟩)
      | (go_at_call 15; refine (awake_any _).mono ?_; rintro e w1 ⟨rfl, hb1⟩; replace hB := bel_trans hB hb1; clear hb1))
    go_ret
    exact RetB.mk rfl ‹_›
theorem varintPrefixes_holds : Rows.VarintPrefixesSaid :=
  OpenClaim.holds_of_wide 7 Try.f7 rfl rfl rfl rfl rfl rfl rfl ⟨rfl, rfl, rfl, rfl, rfl⟩ rfl rfl rfl rfl rfl (by kernel_rfl) Try.func7 (by kernel_rfl)
    (of_decide_eq_true (by kernel_rfl)) (by unfold Func.isWrapper; first | (rw [if_pos (by decide +kernel)]; kernel_rfl) | (rw [if_neg (by decide +kernel)]; exact ⟨rfl, rfl⟩))
    (fun os started H enc _ => varintPrefixes_lifted os started H enc)

set_option maxRecDepth 100000 in
set_option maxHeartbeats 4000000 in
theorem varintOrder_lifted (os : Os) (started : os.Started) (H : Type) (enc : TypeId × Value → H) :
    ReturnsInHanded {} Try.checked os 10 .any (Rows.varintOrderSpec.pre6 enc Try.prog Try.f10 Rows.varintOrderRow.domain false) (Rows.varintOrderSpec.post enc Try.prog Try.f10 false true false false) := by
  refine law_lifted (C := Try.checked) (tb := 4) started Try.own Try.laidOut (by kernel_rfl) Try.func10
    (ChangeSpec.witness6 (enc := enc) (C := Try.checked) false ⟨#[], #[.int .u64 0, .int .u64 0, .int .u8 0], []⟩ 8 (by kernel_rfl) (by kernel_rfl) (by kernel_rfl) (by kernel_rfl))
    rfl rfl Try.underlying4 (by kernel_rfl) (fun ds h => ?_) (fun W base args ds p hval0 hA0 hsz0 hlt => ?_)
  · have h' : ds.length = Try.f10.params.toList.length := h
    rw [Try.params10] at h'
    match ds, h' with
    | [_, _, _], _ => rfl
  · have hval : ∀ (j : Nat) t v, Try.f10.params[j]? = some t → args[j]? = some v → Value.okWide Try.prog W .any base t v := hval0
    have hA : DataW.TrodAll enc Try.prog W 0 (fun _ => true) true Try.f10.params.toList args.toList ds p := hA0
    have hsz : (DataW.weightsEach Try.prog Try.f10.params.toList ds).all (· ≤ reachBytes) = true := hsz0
    rw [Try.params10] at hA hval hsz
    clear hA0 hval0 hsz0
    obtain ⟨v0, vs0, d0, ds0, p0, q0, hargs, rfl, rfl, h0, r0⟩ := trodAll_cons hA
    obtain ⟨v1, vs1, d1, ds1, p1, q1, rfl, rfl, rfl, h1, r1⟩ := trodAll_cons r0
    obtain ⟨v2, vs2, d2, ds2, p2, q2, rfl, rfl, rfl, h2, r2⟩ := trodAll_cons r1
    obtain ⟨rfl, rfl, rfl⟩ := trodAll_nil r2
    obtain rfl : args = #[v0, v1, v2] := by cases args; simp_all
    obtain ⟨a, rfl, rfl, rfl, wa⟩ := open_int Try.underlying22 (hval 0 22 v0 rfl rfl) h0
    obtain ⟨b, rfl, rfl, rfl, wb⟩ := open_int Try.underlying22 (hval 1 22 v1 rfl rfl) h1
    obtain ⟨sh, rfl, rfl, rfl, wsh⟩ := open_int Try.underlying5 (hval 2 5 v2 rfl rfl) h2
    change Calls Try.prog 10 #[.int .u64 a, .int .u64 b, .int .u8 sh] W (RetB (.bool true) W)
    obtain ⟨a1, a2⟩ := bounds_u64 wa
    obtain ⟨b1, b2⟩ := bounds_u64 wb
    obtain ⟨s1, s2⟩ := bounds_u8 wsh
    obtain ⟨x1, x2⟩ := shr_bd a a1 a2 (sh % 64).toNat
    have hB := Below.refl W.heap.size W
    go_enter Try.func10, Try.ntmps10
    go_wp2_with fail
    generalize a / 2 ^ (sh % 64).toNat = x at *
    have l1 := putL_len10 (n := x.toNat) (by omega)
    have l2 := putL_pos x.toNat
    by_cases hlt : b < x
    · go_wp2_with (first
        | (go_at_call 17; refine (vsize_int _ _ (by omega) (by omega)).mono ?_; rintro e w' ⟨rfl, rfl⟩)
        | (go_at_call 15; refine (awake_any _).mono ?_; rintro e w1 ⟨rfl, hb1⟩; replace hB := bel_trans hB hb1; clear hb1))
      go_ret
      exact RetB.mk (by congr 1; simp; omega) ‹_›
    · have l3 := putL_mono b.toNat x.toNat (by omega)
      go_wp2_with (first
        | (go_at_call 17; refine (vsize_int _ _ (by omega) (by omega)).mono ?_; rintro e w' ⟨rfl, rfl⟩)
        | (go_at_call 15; refine (awake_any _).mono ?_; rintro e w1 ⟨rfl, hb1⟩; replace hB := bel_trans hB hb1; clear hb1))
      go_ret
      exact RetB.mk (by congr 1; simp; omega) ‹_›
theorem varintOrder_holds : Rows.VarintOrderSaid :=
  OpenClaim.holds_of_wide 10 Try.f10 rfl rfl rfl rfl rfl rfl rfl ⟨rfl, rfl, rfl, rfl, rfl⟩ rfl rfl rfl rfl rfl (by kernel_rfl) Try.func10 (by kernel_rfl)
    (of_decide_eq_true (by kernel_rfl)) (by unfold Func.isWrapper; first | (rw [if_pos (by decide +kernel)]; kernel_rfl) | (rw [if_neg (by decide +kernel)]; exact ⟨rfl, rfl⟩))
    (fun os started H enc _ => varintOrder_lifted os started H enc)

end Go.Proofs.Ytkdjmlljlidabaa
