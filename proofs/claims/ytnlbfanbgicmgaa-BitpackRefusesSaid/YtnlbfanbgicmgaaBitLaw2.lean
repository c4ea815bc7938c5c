/- More statements of layer 2, each out of the contracts. -/
import Derived.Test.YtnlbfanbgicmgaaBitLaw
namespace Go.VB
open Go.RowKit
theorem RdN.step {k : IntKind} {w w' : World} {v : Value} {l : List Nat} (h : RdN k w w.heap.size v l) (hb : Below w.heap.size w w') : RdN k w' w'.heap.size v l := (h.below hb).more hb.size
end Go.VB
namespace Go.Proofs.Ytnlbfanbgicmgaa
open Go.RowKit Go.VB Go.VarM Go.BP Go.ChangeShapes Go.WideShapes Go.ChangeAt
open Go.ChangeMaps (open_string)
set_option linter.constructorNameAsVariable false
set_option maxRecDepth 100000 in
set_option maxHeartbeats 2000000 in
theorem roundtrip_walk (v0 : Value) (zl : List Int) (k : Int) (W : World) (rl : RdI .i64 W W.heap.size v0 zl) (wk : (Lit.int .i64 k).wf = true) :
    Calls Try.prog 8 #[v0, .int .i64 k] W (RetB (.bool true) W) := by
  have ha := pickN_bd k (n := 65) (by decide)
  have HPK := fun w => Lib.hid (pick_at k 65 w wk (by decide) (by decide))
  generalize pickN k 65 = a at *
  obtain ⟨a1, a2⟩ := ha
  obtain ⟨q, rfl⟩ := Int.eq_ofNat_of_zero_le a1
  have hq : q ≤ 64 := by omega
  have HR := Lib.hid rl; clear rl wk
  go_enter Try.func8, Try.ntmps8
  go_wp2_with fail
  refine (HPK _).out.mono ?_; rintro e w' ⟨rfl, rfl⟩
  clear HPK
  go_wp2_with fail
  refine (numbers_any _ zl q _ _ HR.out (Nat.le_refl _) hq).mono ?_
  rintro e w1 ⟨v, x, rfl, hown, h100, hlt, hB⟩
  have hl64 : ∀ y ∈ x, y < 2 ^ 64 := fun y hy => Nat.lt_of_lt_of_le (hlt y hy) (Nat.pow_le_pow_right (by decide) hq)
  have HR1 := Lib.hid (packR_ok hq (show x.length ≤ 4096 by omega) hlt)
  have HR2 := Lib.hid (round_trip hq (show x.length ≤ 4096 by omega) hlt)
  have HPN := fun w => Lib.hid (bneed_any (x.length : Nat) (q : Nat) w)
  have hsz := str_size (packed x q)
  rw [packed_len, ← Int.ofNat_inj, ← needN_in (n := x.length) (w := q) (by omega) hq] at hsz
  have HSZ := Lib.hid hsz
  have hrd := hown.read
  clear hown hsz hlt HR
  have hrd2 := hrd
  obtain ⟨A, c, rfl, hc1, hc2, _⟩ := hrd2
  have hbound : (str (packed x q)).size ≤ 1000000 := by rw [str_size, packed_len]; have := need_le (n := x.length) (w := q) (by omega) hq; omega
  go_wp2_with fail
  refine (bpack_eq _ x q _ _ hrd (Nat.le_refl _) hl64 HR1.out).mono ?_
  rintro e w2 ⟨rfl, hb2⟩
  replace hrd := hrd.step hb2
  replace hB := bel_trans hB hb2
  clear hb2
  go_wp2_with fail
  refine (bunpack_eq _ _ _ _ HR2.out).mono ?_
  rintro e w3 ⟨y, rfl, hoy, hb3⟩
  replace hrd := hrd.step hb3
  replace hB := bel_trans hB hb3
  have hry := hoy.read
  clear hb3 hoy
  go_wp2_with fail
  refine (awake2_any _).mono ?_
  rintro e w4 ⟨rfl, hb4⟩
  replace hrd := hrd.step hb4
  replace hry := hry.step hb4
  replace hB := bel_trans hB hb4
  clear hb4
  go_wp2_with fail
  refine (same64_eq _ _ x _ _ hrd hry (Nat.le_refl _)).mono ?_
  rintro e w5 ⟨rfl, hb5⟩
  replace hB := bel_trans hB hb5
  clear hrd hry hb5
  go_wp2_with fail
  refine (HPN _).out.mono ?_
  rintro e w6 ⟨rfl, rfl⟩
  have hsz := HSZ.out
  generalize needN (x.length : Nat) (q : Nat) = nn at hsz
  go_wp2
  go_ret
  exact RetB.mk rfl hB
set_option maxRecDepth 100000 in
set_option maxHeartbeats 4000000 in
theorem bitpackRoundTrip_lifted (os : Os) (started : os.Started) (H : Type) (enc : TypeId × Value → H) :
    ReturnsInHanded {} Try.checked os 8 .any (Rows.bitpackRoundTripSpec.pre6 enc Try.prog Try.f8 Rows.bitpackRoundTripRow.domain false) (Rows.bitpackRoundTripSpec.post enc Try.prog Try.f8 false true false false) := by
  refine law_lifted (C := Try.checked) (tb := 4) started Try.own Try.laidOut (by kernel_rfl) Try.func8
    (ChangeSpec.witness6 (enc := enc) (C := Try.checked) false ⟨#[], #[.slice none 0 0, .int .i64 0], []⟩ 8 (by kernel_rfl) (by kernel_rfl) (by kernel_rfl) (by kernel_rfl))
    rfl rfl Try.underlying4 (by kernel_rfl) (fun ds h => ?_) (fun W base args ds p hval0 hA0 hsz0 hlt => ?_)
  · have h' : ds.length = Try.f8.params.toList.length := h
    rw [Try.params8] at h'
    match ds, h' with
    | [_, _], _ => rfl
  · have hval : ∀ (j : Nat) t v, Try.f8.params[j]? = some t → args[j]? = some v → Value.okWide Try.prog W .any base t v := hval0
    have hA : DataW.TrodAll enc Try.prog W 0 (fun _ => true) true Try.f8.params.toList args.toList ds p := hA0
    have hsz : (DataW.weightsEach Try.prog Try.f8.params.toList ds).all (· ≤ reachBytes) = true := hsz0
    rw [Try.params8] at hA hval hsz
    clear hA0 hval0 hsz0
    obtain ⟨v0, vs0, d0, ds0, p0, q0, hargs, rfl, rfl, h0, r0⟩ := trodAll_cons hA
    obtain ⟨v1, vs1, d1, ds1, p1, q1, rfl, rfl, rfl, h1, r1⟩ := trodAll_cons r0
    obtain ⟨rfl, rfl, rfl⟩ := trodAll_nil r1
    obtain rfl : args = #[v0, v1] := by cases args; simp_all
    obtain ⟨zl, rl, wl, bl⟩ := open_rdI Try.underlying42 Try.underlying3 (by kernel_rfl) (hval 0 42 v0 rfl rfl) h0 hsz (j := 0) rfl rfl
    obtain ⟨k, rfl, rfl, rfl, wk⟩ := open_int Try.underlying3 (hval 1 3 v1 rfl rfl) h1
    change Calls Try.prog 8 #[v0, .int .i64 k] W (RetB (.bool true) W)
    exact roundtrip_walk v0 zl k W rl wk
theorem bitpackRoundTrip_holds : Rows.BitpackRoundTripSaid :=
  OpenClaim.holds_of_wide 8 Try.f8 rfl rfl rfl rfl rfl rfl rfl ⟨rfl, rfl, rfl, rfl, rfl⟩ rfl rfl rfl rfl rfl (by kernel_rfl) Try.func8 (by kernel_rfl)
    (of_decide_eq_true (by kernel_rfl)) (by unfold Func.isWrapper; first | (rw [if_pos (by decide +kernel)]; kernel_rfl) | (rw [if_neg (by decide +kernel)]; exact ⟨rfl, rfl⟩))
    (fun os started H enc _ => bitpackRoundTrip_lifted os started H enc)

set_option maxRecDepth 100000 in
set_option maxHeartbeats 2000000 in
theorem concat_walk (v0 v1 : Value) (zl zm : List Int) (k : Int) (W : World) (rl : RdI .i64 W W.heap.size v0 zl) (rm : RdI .i64 W W.heap.size v1 zm) (wk : (Lit.int .i64 k).wf = true) :
    Calls Try.prog 10 #[v0, v1, .int .i64 k] W (RetB (.bool true) W) := by
  have ha := pickN_bd k (n := 65) (by decide)
  have HPK := fun w => Lib.hid (pick_at k 65 w wk (by decide) (by decide))
  generalize pickN k 65 = a at *
  obtain ⟨a1, a2⟩ := ha
  obtain ⟨q, rfl⟩ := Int.eq_ofNat_of_zero_le a1
  have hq : q ≤ 64 := by omega
  have HR := Lib.hid rl; have HM := Lib.hid rm; clear rl rm wk
  go_enter Try.func10, Try.ntmps10
  go_wp2_with fail
  refine (HPK _).out.mono ?_; rintro e w' ⟨rfl, rfl⟩
  clear HPK
  go_wp2_with fail
  refine (numbers_any _ zl q _ _ HR.out (Nat.le_refl _) hq).mono ?_
  rintro e w1 ⟨v, x0, rfl, hown, h100, hlt0, hB⟩
  go_wp2_with fail
  refine (numbers_any _ zm q _ _ (HM.out.below hB) hB.size hq).mono ?_
  rintro e w2 ⟨vy, y, rfl, howny, h100y, hlty, hb2⟩
  have hrd0 := hown.read.step hb2
  have hry := howny.read
  replace hB := bel_trans hB hb2
  clear hb2 hown howny HR HM
  have hrd1 := hrd0
  obtain ⟨A, c, rfl, hc1, hc2, hcell⟩ := hrd1
  have hry1 := hry
  obtain ⟨Ay, cy, rfl, hcy1, hcy2, _⟩ := hry1
  have hcut : x0.length / 8 * 8 ≤ x0.length := by omega
  have hrd : RdN .u64 w2 w2.heap.size (.slice A (x0.length / 8 * 8) c) (x0.take (x0.length / 8 * 8)) := by
    refine ⟨A, c, by rw [List.length_take, Nat.min_eq_left hcut], by rw [List.length_take]; omega, hc2, fun i hi => ?_⟩
    rw [List.length_take] at hi
    obtain ⟨ad, e1, e2, e3⟩ := hcell i (by omega)
    refine ⟨ad, e1, e2, e3.trans ?_⟩
    rw [List.getD_eq_getElem?_getD, List.getD_eq_getElem?_getD, List.getElem?_take, if_pos (by omega)]
  clear hcell hrd0
  have hx : ∀ a ∈ x0.take (x0.length / 8 * 8), a < 2 ^ q := fun a h => hlt0 a (List.mem_of_mem_take h)
  have hxl : (x0.take (x0.length / 8 * 8)).length = x0.length / 8 * 8 := by rw [List.length_take]; omega
  have HXL := Lib.hid hxl; clear hxl
  generalize x0.take (x0.length / 8 * 8) = x at *
  have hxy : ∀ a ∈ x ++ y, a < 2 ^ q := fun a h => (List.mem_append.1 h).elim (hx a) (hlty a)
  have hl64 : ∀ z ∈ x ++ y, z < 2 ^ 64 := fun z hz => Nat.lt_of_lt_of_le (hxy z hz) (Nat.pow_le_pow_right (by decide) hq)
  have HR1 := Lib.hid (packR_ok hq (show x.length ≤ 4096 by rw [HXL.out]; omega) hx)
  have HR2 := Lib.hid (packR_ok hq (show y.length ≤ 4096 by omega) hlty)
  have HR3 := Lib.hid (packR_ok hq (show (x ++ y).length ≤ 4096 by rw [List.length_append, HXL.out]; omega) hxy)
  have hpa := packed_append (x := x) (y := y) (w := q) (by rw [HXL.out]; omega) hx hlty
  have hadd : ∀ w, (Op.stringOp .add (str (packed x q)) (str (packed y q))).run Try.prog w = .ok (.string (str (packed (x ++ y) q))) w := fun w => by
    have e1 : (str (packed x q)).size ≤ 32768 := by rw [str_size, packed_len]; exact need_le (by rw [HXL.out]; omega) hq
    have e2 : (str (packed y q)).size ≤ 32768 := by rw [str_size, packed_len]; exact need_le (by omega) hq
    rw [run_string_add_sum w _ _ (by omega), str_append, hpa]
  have HPA := Lib.hid hpa; clear hpa
  clear hlt0 hx hlty hxy
  have hxl : x.length ≤ 100 := by rw [HXL.out]; omega
  have hl64x : ∀ z ∈ x, z < 2 ^ 64 := fun z hz => hl64 z (List.mem_append_left _ hz)
  have hl64y : ∀ z ∈ y, z < 2 ^ 64 := fun z hz => hl64 z (List.mem_append_right _ hz)
  go_wp2_with fail
  refine (bpack_eq _ x q _ _ hrd (Nat.le_refl _) hl64x HR1.out).mono ?_
  rintro e w3 ⟨rfl, hb⟩
  replace hrd := hrd.step hb
  replace hry := hry.step hb
  replace hB := bel_trans hB hb
  clear hb
  go_wp2_with fail
  refine (bpack_eq _ y q _ _ hry (Nat.le_refl _) hl64y HR2.out).mono ?_
  rintro e w4 ⟨rfl, hb⟩
  replace hrd := hrd.step hb
  replace hry := hry.step hb
  replace hB := bel_trans hB hb
  clear hb
  have hB4 := hB.size
  go_wp2_with (at_builtin; refine wpl_appN rfl _ _ 32 rfl w4.heap.size 23 .u64 8 Try.underlying32 Try.infoU64 _ [] rfl (OwnN.nil _ _ _ _) w4.heap.size _ x rfl hrd (by unfold maxLen; simp; omega) (by simp; omega) (Nat.le_refl _) ?_)
  intro v5 w5 hown5 hb _
  replace hry := hry.step hb
  replace hB := bel_trans hB hb
  have hle := hb.size
  clear hb
  have hown5 : OwnN .u64 23 w5 w4.heap.size v5 x := hown5
  go_wp2_with (at_builtin; refine wpl_appN rfl _ _ 32 rfl w4.heap.size 23 .u64 8 Try.underlying32 Try.infoU64 _ x rfl hown5 w5.heap.size _ y rfl hry (by unfold maxLen; omega) (by omega) hle ?_)
  intro v6 w6 hown6 hb hg
  have hown6' : OwnN .u64 23 w6 w4.heap.size v6 (x ++ y) := hown6
  have hB6 : Below W.heap.size W w6 := hB.trans (hb.mono (Nat.le_trans hB4 (Nat.le_refl _)))
  have hrd6 := hown6'.read
  clear hown5 hown6 hown6' hb hg hry hB hle
  go_wp2_with fail
  refine (bpack_eq _ (x ++ y) q _ _ hrd6 (Nat.le_refl _) hl64 HR3.out).mono ?_
  rintro e w7 ⟨rfl, hb⟩
  replace hB6 := bel_trans hB6 hb
  clear hb hrd6
  go_wp2_with fail
  refine (awake2_any _).mono ?_
  rintro e w8 ⟨rfl, hb⟩
  replace hB6 := bel_trans hB6 hb
  clear hb
  go_wp2
  go_ret
  exact RetB.mk rfl hB6
set_option maxRecDepth 100000 in
set_option maxHeartbeats 4000000 in
theorem bitpackConcat_lifted (os : Os) (started : os.Started) (H : Type) (enc : TypeId × Value → H) :
    ReturnsInHanded {} Try.checked os 10 .any (Rows.bitpackConcatSpec.pre6 enc Try.prog Try.f10 Rows.bitpackConcatRow.domain false) (Rows.bitpackConcatSpec.post enc Try.prog Try.f10 false true false false) := by
  refine law_lifted (C := Try.checked) (tb := 4) started Try.own Try.laidOut (by kernel_rfl) Try.func10
    (ChangeSpec.witness6 (enc := enc) (C := Try.checked) false ⟨#[], #[.slice none 0 0, .slice none 0 0, .int .i64 0], []⟩ 8 (by kernel_rfl) (by kernel_rfl) (by kernel_rfl) (by kernel_rfl))
    rfl rfl Try.underlying4 (by kernel_rfl) (fun ds h => ?_) (fun W base args ds p hval0 hA0 hsz0 hlt => ?_)
  · have h' : ds.length = Try.f10.params.toList.length := h
    rw [Try.params10] at h'
    match ds, h' with
    | [_, _, _], _ => rfl
  · have hval : ∀ (j : Nat) t v, Try.f10.params[j]? = some t → args[j]? = some v → Value.okWide Try.prog W .any base t v := hval0
    have hA : DataW.TrodAll enc Try.prog W 0 (fun _ => true) true Try.f10.params.toList args.toList ds p := hA0
    have hsz : (DataW.weightsEach Try.prog Try.f10.params.toList ds).all (· ≤ reachBytes) = true := hsz0
    rw [Try.params10] at hA hval hsz
    clear hA0 hval0 hsz0
    obtain ⟨v0, vs0, d0, ds0, p0, q0, hargs, rfl, rfl, h0, r0⟩ := trodAll_cons hA
    obtain ⟨v1, vs1, d1, ds1, p1, q1, rfl, rfl, rfl, h1, r1⟩ := trodAll_cons r0
    obtain ⟨v2, vs2, d2, ds2, p2, q2, rfl, rfl, rfl, h2, r2⟩ := trodAll_cons r1
    obtain ⟨rfl, rfl, rfl⟩ := trodAll_nil r2
    obtain rfl : args = #[v0, v1, v2] := by cases args; simp_all
    obtain ⟨zl, rl, wl, bl⟩ := open_rdI Try.underlying42 Try.underlying3 (by kernel_rfl) (hval 0 42 v0 rfl rfl) h0 hsz (j := 0) rfl rfl
    obtain ⟨zm, rm, wm, bm⟩ := open_rdI Try.underlying42 Try.underlying3 (by kernel_rfl) (hval 1 42 v1 rfl rfl) h1 hsz (j := 1) rfl rfl
    obtain ⟨k, rfl, rfl, rfl, wk⟩ := open_int Try.underlying3 (hval 2 3 v2 rfl rfl) h2
    change Calls Try.prog 10 #[v0, v1, .int .i64 k] W (RetB (.bool true) W)
    exact concat_walk v0 v1 zl zm k W rl rm wk
theorem bitpackConcat_holds : Rows.BitpackConcatSaid :=
  OpenClaim.holds_of_wide 10 Try.f10 rfl rfl rfl rfl rfl rfl rfl ⟨rfl, rfl, rfl, rfl, rfl⟩ rfl rfl rfl rfl rfl (by kernel_rfl) Try.func10 (by kernel_rfl)
    (of_decide_eq_true (by kernel_rfl)) (by unfold Func.isWrapper; first | (rw [if_pos (by decide +kernel)]; kernel_rfl) | (rw [if_neg (by decide +kernel)]; exact ⟨rfl, rfl⟩))
    (fun os started H enc _ => bitpackConcat_lifted os started H enc)
end Go.Proofs.Ytnlbfanbgicmgaa
