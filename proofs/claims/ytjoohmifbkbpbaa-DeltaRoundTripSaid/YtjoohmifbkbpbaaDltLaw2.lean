/- Two statements of layer 11: changed encodings; what is read of what was written. -/
import Derived.Test.YtjoohmifbkbpbaaDltLaw
namespace Go.Proofs.Ytjoohmifbkbpbaa
open Go.RowKit Go.VB Go.VarM Go.BP Go.RL Go.DL Go.KS Go.ChangeShapes Go.WideShapes Go.ChangeAt
open Go.ChangeMaps (open_string)
set_option linter.constructorNameAsVariable false
set_option maxRecDepth 100000 in
set_option maxHeartbeats 4000000 in
theorem dmuts_walk (v0 : Value) (zl : List Int) (p c n : Int) (W : World) (rl : RdI .i64 W W.heap.size v0 zl) (wl : ∀ z ∈ zl, (Lit.int .i64 z).wf = true) (wp : (Lit.int .i64 p).wf = true) (wc : (Lit.int .u8 c).wf = true) (wn : (Lit.int .i64 n).wf = true) :
    Calls Try.prog 6 #[v0, .int .i64 p, .int .u8 c, .int .i64 n] W (RetB (.bool true) W) := by
  have HK := Lib.hid (klist_any W v0 zl rl wl)
  clear rl wl
  obtain ⟨c0, c1⟩ := bounds_u8 wc
  clear wc
  have HPn := fun w => Lib.hid (pick_at n 5 w wn (by omega) (by omega))
  obtain ⟨n0, n1⟩ := pickN_bd n (n := 5) (by omega)
  generalize pickN n 5 = d at *
  clear wn
  go_enter Try.func6, Try.ntmps6
  go_wp2_with fail
  refine HK.out.mono ?_; rintro e w1 ⟨vx, lx, rfl, hown, hlx, hix, hB⟩
  obtain ⟨A, cp, rfl, hc1, hc2, hcx⟩ := hown.read
  unfold maxLen at hc2
  have H1 := Lib.hid (rdencode_any _ lx _ w1 hown.read (Nat.le_refl _) hix)
  have hse : (str (encX lx)).size ≤ 77834 := by
    have := encX_len hix
    rw [str_size]; omega
  clear HK hown hcx hix
  generalize str (encX lx) = S at *
  go_wp2_with fail
  refine H1.out.mono ?_; rintro e w2 ⟨rfl, hb⟩
  replace hB := bel_trans hB hb; clear hb H1
  have HPk := fun w => Lib.hid (pick_at p ((S.size : Int) + 1) w wp (by omega) (by omega))
  obtain ⟨p0, p1⟩ := pickN_bd p (n := (S.size : Int) + 1) (by omega)
  generalize pickN p ((S.size : Int) + 1) = k at *
  obtain ⟨k, rfl⟩ := Int.eq_ofNat_of_zero_le p0
  clear wp
  go_wp2_with fail
  refine (HPk _).out.mono ?_; rintro e w' ⟨rfl, rfl⟩
  clear HPk
  obtain ⟨m, hm1, hm2⟩ : ∃ m : Nat, m ≤ S.size ∧ (if (k : Int) + 1 < (S.size : Int) then (k : Int) + 1 else (S.size : Int)) = (m : Int) := ⟨min S.size (k + 1), by omega, by split <;> omega⟩
  obtain ⟨X, hX⟩ : ∃ X, S.extract 0 k = X := ⟨_, rfl⟩
  obtain ⟨Z, hZ⟩ : ∃ Z, S.extract m S.size = Z := ⟨_, rfl⟩
  have hXs : X.size ≤ 77834 := by rw [← hX, ByteArray.size_extract]; omega
  have hZs : Z.size ≤ 77834 := by rw [← hZ, ByteArray.size_extract]; omega
  have hY1 : (str [UInt8.ofNat c.toNat]).size = 1 := by rw [str_size]; rfl
  have a1 : ∀ w, (Op.stringOp .add X (str [UInt8.ofNat c.toNat])).run Try.prog w = .ok (.string (X ++ str [UInt8.ofNat c.toNat])) w := fun w => run_string_add_sum w _ _ (by rw [hY1]; omega)
  have a2 : ∀ w, (Op.stringOp .add (X ++ str [UInt8.ofNat c.toNat]) Z).run Try.prog w = .ok (.string (X ++ str [UInt8.ofNat c.toNat] ++ Z)) w := fun w => run_string_add_sum w _ _ (by rw [ByteArray.size_append, hY1]; omega)
  have a3 : ∀ w, (Op.stringOp .add S (str [UInt8.ofNat c.toNat])).run Try.prog w = .ok (.string (S ++ str [UInt8.ofNat c.toNat])) w := fun w => run_string_add_sum w _ _ (by rw [hY1]; omega)
  have D1 := fun w => Lib.hid (decodes_any X (lx.length : Int) w (by omega))
  have D2 := fun w => Lib.hid (decodes_any (X ++ str [UInt8.ofNat c.toNat] ++ Z) (lx.length : Int) w (by rw [ByteArray.size_append, ByteArray.size_append, hY1]; omega))
  have D3 := fun w => Lib.hid (decodes_any (S ++ str [UInt8.ofNat c.toNat]) (lx.length : Int) w (by rw [ByteArray.size_append, hY1]; omega))
  have D4 := fun w => Lib.hid (decodes_any S ((lx.length : Int) + d - 2) w (by omega))
  have hconv := run_string1 (P := Try.prog) 30 9 5 Try.underlying30 Try.underlying5 Try.underlying9
  have hconv2 := fun W m => hconv W c m
  have hconvd := run_string1_drew (P := Try.prog) 30 9 5 Try.underlying30 Try.underlying5 Try.underlying9
  have hconv3 := fun W m => hconvd W c m
  have q1 : (0 : Int) ≤ (k : Int) := by omega
  have q2 : (k : Int) ≤ (S.size : Int) := by omega
  have q5 : IntKind.i64.wrap ((k : Int) + 1) = (k : Int) + 1 := IntWalk.i64_in _ ⟨by omega, by omega⟩
  clear hconv hconvd hXs hZs p0 p1 c0 c1 hY1
  generalize str [UInt8.ofNat c.toNat] = Y at *
  go_wp2_with fail
  go_region
  replace hB := (hB.alloc hB.size (.cells #[.int .u8 c] 5)).drew
  clear a1 a2 hconv3 hm1 hm2 hZ q5
  generalize (w2.alloc (.cells #[.int .u8 c] 5)).drew = w3 at hB ⊢
  go_wp2_with fail
  refine (awake11_any _).mono ?_; rintro e w4 ⟨rfl, hb⟩; replace hB := bel_trans hB hb; clear hb
  go_wp2_with fail
  (with_reducible refine (D1 _).out.mono ?_); rintro e w5 ⟨rfl, hb⟩; replace hB := bel_trans hB hb; clear hb
  go_wp2_with fail
  (with_reducible refine (D2 _).out.mono ?_); rintro e w6 ⟨rfl, hb⟩; replace hB := bel_trans hB hb; clear hb
  go_wp2_with fail
  (with_reducible refine (D3 _).out.mono ?_); rintro e w7 ⟨rfl, hb⟩; replace hB := bel_trans (hB.alloc hB.size (.cells #[.int .u8 c] 5)) hb; clear hb
  go_wp2_with fail
  (with_reducible refine (HPn _).out.mono ?_); rintro e w' ⟨rfl, rfl⟩
  go_wp2_with fail
  (with_reducible refine (D4 _).out.mono ?_); rintro e w8 ⟨rfl, hb⟩; replace hB := bel_trans hB hb; clear hb
  clear D1 D2 D3 D4 HPn hconv2 a3
  go_wp2
  go_ret
  exact RetB.mk rfl hB
set_option maxRecDepth 100000 in
set_option maxHeartbeats 4000000 in
theorem deltaMutations_lifted (os : Os) (started : os.Started) (H : Type) (enc : TypeId × Value → H) :
    ReturnsInHanded {} Try.checked os 6 .any (Rows.deltaMutationsSpec.pre6 enc Try.prog Try.f6 Rows.deltaMutationsRow.domain false) (Rows.deltaMutationsSpec.post enc Try.prog Try.f6 false true false false) := by
  refine law_lifted (C := Try.checked) (tb := 4) started Try.own Try.laidOut (by kernel_rfl) Try.func6
    (ChangeSpec.witness6 (enc := enc) (C := Try.checked) false ⟨#[], #[.slice none 0 0, .int .i64 0, .int .u8 0, .int .i64 0], []⟩ 8 (by kernel_rfl) (by kernel_rfl) (by kernel_rfl) (by kernel_rfl))
    rfl rfl Try.underlying4 (by kernel_rfl) (fun ds h => ?_) (fun W base args ds p hval0 hA0 hsz0 hlt => ?_)
  · have h' : ds.length = Try.f6.params.toList.length := h
    rw [Try.params6] at h'
    match ds, h' with
    | [_, _, _, _], _ => rfl
  · have hval : ∀ (j : Nat) t v, Try.f6.params[j]? = some t → args[j]? = some v → Value.okWide Try.prog W .any base t v := hval0
    have hA : DataW.TrodAll enc Try.prog W 0 (fun _ => true) true Try.f6.params.toList args.toList ds p := hA0
    have hsz : (DataW.weightsEach Try.prog Try.f6.params.toList ds).all (· ≤ reachBytes) = true := hsz0
    rw [Try.params6] at hA hval hsz
    clear hA0 hval0 hsz0
    obtain ⟨v0, vs0, d0, ds0, p0, q0, hargs, rfl, rfl, h0, r0⟩ := trodAll_cons hA
    obtain ⟨v1, vs1, d1, ds1, p1, q1, rfl, rfl, rfl, h1, r1⟩ := trodAll_cons r0
    obtain ⟨v2, vs2, d2, ds2, p2, q2, rfl, rfl, rfl, h2, r2⟩ := trodAll_cons r1
    obtain ⟨v3, vs3, d3, ds3, p3, q3, rfl, rfl, rfl, h3, r3⟩ := trodAll_cons r2
    obtain ⟨rfl, rfl, rfl⟩ := trodAll_nil r3
    obtain rfl : args = #[v0, v1, v2, v3] := by cases args; simp_all
    obtain ⟨zm, rm, wm, bm⟩ := open_rdI Try.underlying25 Try.underlying3 (by kernel_rfl) (hval 0 25 v0 rfl rfl) h0 hsz (j := 0) rfl rfl
    obtain ⟨p, rfl, rfl, rfl, wp⟩ := open_int Try.underlying3 (hval 1 3 v1 rfl rfl) h1
    obtain ⟨c, rfl, rfl, rfl, wc⟩ := open_int Try.underlying5 (hval 2 5 v2 rfl rfl) h2
    obtain ⟨n, rfl, rfl, rfl, wn⟩ := open_int Try.underlying3 (hval 3 3 v3 rfl rfl) h3
    change Calls Try.prog 6 #[v0, .int .i64 p, .int .u8 c, .int .i64 n] W (RetB (.bool true) W)
    exact dmuts_walk v0 zm p c n W rm wm wp wc wn
theorem deltaMutations_holds : Rows.DeltaMutationsSaid :=
  OpenClaim.holds_of_wide 6 Try.f6 rfl rfl rfl rfl rfl rfl rfl ⟨rfl, rfl, rfl, rfl, rfl⟩ rfl rfl rfl rfl rfl (by kernel_rfl) Try.func6 (by kernel_rfl)
    (of_decide_eq_true (by kernel_rfl)) (by unfold Func.isWrapper; first | (rw [if_pos (by decide +kernel)]; kernel_rfl) | (rw [if_neg (by decide +kernel)]; exact ⟨rfl, rfl⟩))
    (fun os started H enc _ => deltaMutations_lifted os started H enc)
set_option maxRecDepth 100000 in
set_option maxHeartbeats 4000000 in
theorem dround_walk (v0 v1 : Value) (zl zm : List Int) (W : World) (rl : RdV (Value.int .i64) W W.heap.size v0 zl) (hi : I64 zl) (rm : RdI .i64 W W.heap.size v1 zm) (wm : ∀ z ∈ zm, (Lit.int .i64 z).wf = true) :
    Calls Try.prog 7 #[v0, v1] W (RetB (.bool true) W) := by
  have HK := Lib.hid (klist_any W v1 zm rm wm)
  clear rm wm
  obtain ⟨A, c, _, rfl, rfl, hc1, hc2⟩ := rl.bds
  obtain ⟨y, hy1, hy2, hy3⟩ : ∃ y : List Int, y = zl.take (min zl.length 4096) ∧ y.length = min zl.length 4096 ∧ I64 y := ⟨_, rfl, by rw [List.length_take]; omega, fun z hz => hi z (List.mem_of_mem_take hz)⟩
  have hry : RdV (Value.int .i64) W W.heap.size (.slice A y.length c) y := rl.head (by rw [hy2]; exact hy1) (by omega)
  have hy4 : y.length ≤ 4096 := by omega
  have hyc : y.length ≤ c := by omega
  have HRY := Lib.hid hry
  have HY3 := Lib.hid hy3
  clear hry hy1 hi hy3
  by_cases hbig : 4096 < zl.length
  · have hyl : y.length = 4096 := by omega
    rw [hyl] at HRY
    have HYL := Lib.hid hyl
    have hy5 : y.length ≤ 4096 ∧ 4096 ≤ y.length := by omega
    clear rl hy2 hyl
    go_enter Try.func7, Try.ntmps7
    go_wp2_with fail
    refine HK.out.mono ?_; rintro e w1 ⟨vx, lx, rfl, hown, hlx, hix, hB⟩
    obtain ⟨A2, c2, rfl, hd1, hd2, -⟩ := hown.read
    unfold maxLen at hd2
    have hrx : RdV (Value.int .i64) w1 w1.heap.size (.slice A2 lx.length c2) lx := hown.read
    have hrl := (HRY.out.below hB).more hB.size
    have HE1 := Lib.hid (dencode_any _ y _ w1 hrl (Nat.le_refl _) HY3.out)
    have HE2 := fun w (h : RdV (Value.int .i64) w w.heap.size (.slice A2 lx.length c2) lx) => Lib.hid (dencode_any _ lx _ w h (Nat.le_refl _) hix)
    have HD1 : ∀ w, Hid (Calls Try.prog 15 #[.string (str (encX y)), .int .i64 4096] w (RetVE (Value.int .i64) 2 y 0 w)) := fun w => by
      have h := ddecode_any (str (encX y)) ((y.length : Nat) : Int) w (by rw [str_size]; have := encX_len HY3.out; omega)
      rw [decX_enc hy4 HY3.out, HYL.out] at h
      exact Lib.hid h
    have HD2 : ∀ w, Hid (Calls Try.prog 15 #[.string (str (encX lx)), .int .i64 (lx.length : Int)] w (RetVE (Value.int .i64) 2 lx 0 w)) := fun w => by
      have h := ddecode_any (str (encX lx)) ((lx.length : Nat) : Int) w (by rw [str_size]; have := encX_len hix; omega)
      rw [decX_enc (by omega) hix] at h
      exact Lib.hid h
    clear HK hown hix HYL HRY HY3
    generalize str (encX y) = S at *
    generalize str (encX lx) = T at *
    go_wp2_with fail
    refine HE1.out.mono ?_; rintro e w2 ⟨rfl, hb⟩
    replace hrl := hrl.step hb; replace hrx := hrx.step hb; replace hB := bel_trans hB hb
    clear hb HE1
    go_wp2_with fail
    refine (HD1 _).out.mono ?_; rintro e w3 ⟨v3, rfl, hown3, hb⟩
    have hr3 := hown3.read
    replace hrl := hrl.step hb; replace hrx := hrx.step hb; replace hB := bel_trans hB hb
    clear hb HD1 hown3
    go_wp2_with fail
    refine (HE2 _ hrx).out.mono ?_; rintro e w4 ⟨rfl, hb⟩
    replace hrl := hrl.step hb; replace hrx := hrx.step hb; replace hr3 := hr3.step hb; replace hB := bel_trans hB hb
    clear hb HE2
    go_wp2_with fail
    refine (HD2 _).out.mono ?_; rintro e w5 ⟨v5, rfl, hown5, hb⟩
    have hr5 := hown5.read
    replace hrl := hrl.step hb; replace hrx := hrx.step hb; replace hr3 := hr3.step hb; replace hB := bel_trans hB hb
    clear hb HD2 hown5
    go_wp2_with fail
    refine (awake11_any _).mono ?_; rintro e w6 ⟨rfl, hb⟩
    replace hrl := hrl.step hb; replace hrx := hrx.step hb; replace hr3 := hr3.step hb; replace hr5 := hr5.step hb; replace hB := bel_trans hB hb
    clear hb
    go_wp2_with fail
    refine (same_i_eq _ _ y _ _ hr3 hrl (Nat.le_refl _)).mono ?_; rintro e w7 ⟨rfl, hb⟩
    replace hrx := hrx.step hb; replace hr5 := hr5.step hb; replace hB := bel_trans hB hb
    clear hb hr3 hrl
    go_wp2_with fail
    refine (same_i_eq _ _ lx _ _ hr5 hrx (Nat.le_refl _)).mono ?_; rintro e w8 ⟨rfl, hb⟩
    replace hB := bel_trans hB hb
    clear hb hr5 hrx
    go_wp2
    go_ret
    exact RetB.mk rfl hB
  · have hyl : y.length = zl.length := by omega
    rw [hyl] at HRY
    have HYL := Lib.hid hyl
    have hy5 : y.length ≤ zl.length ∧ zl.length ≤ y.length := by omega
    clear rl hy2 hyl
    go_enter Try.func7, Try.ntmps7
    go_wp2_with fail
    refine HK.out.mono ?_; rintro e w1 ⟨vx, lx, rfl, hown, hlx, hix, hB⟩
    obtain ⟨A2, c2, rfl, hd1, hd2, -⟩ := hown.read
    unfold maxLen at hd2
    have hrx : RdV (Value.int .i64) w1 w1.heap.size (.slice A2 lx.length c2) lx := hown.read
    have hrl := (HRY.out.below hB).more hB.size
    have HE1 := Lib.hid (dencode_any _ y _ w1 hrl (Nat.le_refl _) HY3.out)
    have HE2 := fun w (h : RdV (Value.int .i64) w w.heap.size (.slice A2 lx.length c2) lx) => Lib.hid (dencode_any _ lx _ w h (Nat.le_refl _) hix)
    have HD1 : ∀ w, Hid (Calls Try.prog 15 #[.string (str (encX y)), .int .i64 (zl.length:Int)] w (RetVE (Value.int .i64) 2 y 0 w)) := fun w => by
      have h := ddecode_any (str (encX y)) ((y.length : Nat) : Int) w (by rw [str_size]; have := encX_len HY3.out; omega)
      rw [decX_enc hy4 HY3.out, HYL.out] at h
      exact Lib.hid h
    have HD2 : ∀ w, Hid (Calls Try.prog 15 #[.string (str (encX lx)), .int .i64 (lx.length : Int)] w (RetVE (Value.int .i64) 2 lx 0 w)) := fun w => by
      have h := ddecode_any (str (encX lx)) ((lx.length : Nat) : Int) w (by rw [str_size]; have := encX_len hix; omega)
      rw [decX_enc (by omega) hix] at h
      exact Lib.hid h
    clear HK hown hix HYL HRY HY3
    generalize str (encX y) = S at *
    generalize str (encX lx) = T at *
    go_wp2_with fail
    refine HE1.out.mono ?_; rintro e w2 ⟨rfl, hb⟩
    replace hrl := hrl.step hb; replace hrx := hrx.step hb; replace hB := bel_trans hB hb
    clear hb HE1
    go_wp2_with fail
    refine (HD1 _).out.mono ?_; rintro e w3 ⟨v3, rfl, hown3, hb⟩
    have hr3 := hown3.read
    replace hrl := hrl.step hb; replace hrx := hrx.step hb; replace hB := bel_trans hB hb
    clear hb HD1 hown3
    go_wp2_with fail
    refine (HE2 _ hrx).out.mono ?_; rintro e w4 ⟨rfl, hb⟩
    replace hrl := hrl.step hb; replace hrx := hrx.step hb; replace hr3 := hr3.step hb; replace hB := bel_trans hB hb
    clear hb HE2
    go_wp2_with fail
    refine (HD2 _).out.mono ?_; rintro e w5 ⟨v5, rfl, hown5, hb⟩
    have hr5 := hown5.read
    replace hrl := hrl.step hb; replace hrx := hrx.step hb; replace hr3 := hr3.step hb; replace hB := bel_trans hB hb
    clear hb HD2 hown5
    go_wp2_with fail
    refine (awake11_any _).mono ?_; rintro e w6 ⟨rfl, hb⟩
    replace hrl := hrl.step hb; replace hrx := hrx.step hb; replace hr3 := hr3.step hb; replace hr5 := hr5.step hb; replace hB := bel_trans hB hb
    clear hb
    go_wp2_with fail
    refine (same_i_eq _ _ y _ _ hr3 hrl (Nat.le_refl _)).mono ?_; rintro e w7 ⟨rfl, hb⟩
    replace hrx := hrx.step hb; replace hr5 := hr5.step hb; replace hB := bel_trans hB hb
    clear hb hr3 hrl
    go_wp2_with fail
    refine (same_i_eq _ _ lx _ _ hr5 hrx (Nat.le_refl _)).mono ?_; rintro e w8 ⟨rfl, hb⟩
    replace hB := bel_trans hB hb
    clear hb hr5 hrx
    go_wp2
    go_ret
    exact RetB.mk rfl hB
set_option maxRecDepth 100000 in
set_option maxHeartbeats 4000000 in
theorem deltaRoundTrip_lifted (os : Os) (started : os.Started) (H : Type) (enc : TypeId × Value → H) :
    ReturnsInHanded {} Try.checked os 7 .any (Rows.deltaRoundTripSpec.pre6 enc Try.prog Try.f7 Rows.deltaRoundTripRow.domain false) (Rows.deltaRoundTripSpec.post enc Try.prog Try.f7 false true false false) := by
  refine law_lifted (C := Try.checked) (tb := 4) started Try.own Try.laidOut (by kernel_rfl) Try.func7
    (ChangeSpec.witness6 (enc := enc) (C := Try.checked) false ⟨#[], #[.slice none 0 0, .slice none 0 0], []⟩ 8 (by kernel_rfl) (by kernel_rfl) (by kernel_rfl) (by kernel_rfl))
    rfl rfl Try.underlying4 (by kernel_rfl) (fun ds h => ?_) (fun W base args ds p hval0 hA0 hsz0 hlt => ?_)
  · have h' : ds.length = Try.f7.params.toList.length := h
    rw [Try.params7] at h'
    match ds, h' with
    | [_, _], _ => rfl
  · have hval : ∀ (j : Nat) t v, Try.f7.params[j]? = some t → args[j]? = some v → Value.okWide Try.prog W .any base t v := hval0
    have hA : DataW.TrodAll enc Try.prog W 0 (fun _ => true) true Try.f7.params.toList args.toList ds p := hA0
    have hsz : (DataW.weightsEach Try.prog Try.f7.params.toList ds).all (· ≤ reachBytes) = true := hsz0
    rw [Try.params7] at hA hval hsz
    clear hA0 hval0 hsz0
    obtain ⟨v0, vs0, d0, ds0, p0, q0, hargs, rfl, rfl, h0, r0⟩ := trodAll_cons hA
    obtain ⟨v1, vs1, d1, ds1, p1, q1, rfl, rfl, rfl, h1, r1⟩ := trodAll_cons r0
    obtain ⟨rfl, rfl, rfl⟩ := trodAll_nil r1
    obtain rfl : args = #[v0, v1] := by cases args; simp_all
    obtain ⟨zl, rl, wl, bl⟩ := open_rdI Try.underlying23 Try.underlying2 (by kernel_rfl) (hval 0 23 v0 rfl rfl) h0 hsz (j := 0) rfl rfl
    obtain ⟨zm, rm, wm, bm⟩ := open_rdI Try.underlying25 Try.underlying3 (by kernel_rfl) (hval 1 25 v1 rfl rfl) h1 hsz (j := 1) rfl rfl
    change Calls Try.prog 7 #[v0, v1] W (RetB (.bool true) W)
    exact dround_walk v0 v1 zl zm W rl.toV (I64.of wl) rm wm
theorem deltaRoundTrip_holds : Rows.DeltaRoundTripSaid :=
  OpenClaim.holds_of_wide 7 Try.f7 rfl rfl rfl rfl rfl rfl rfl ⟨rfl, rfl, rfl, rfl, rfl⟩ rfl rfl rfl rfl rfl (by kernel_rfl) Try.func7 (by kernel_rfl)
    (of_decide_eq_true (by kernel_rfl)) (by unfold Func.isWrapper; first | (rw [if_pos (by decide +kernel)]; kernel_rfl) | (rw [if_neg (by decide +kernel)]; exact ⟨rfl, rfl⟩))
    (fun os started H enc _ => deltaRoundTrip_lifted os started H enc)
end Go.Proofs.Ytjoohmifbkbpbaa
