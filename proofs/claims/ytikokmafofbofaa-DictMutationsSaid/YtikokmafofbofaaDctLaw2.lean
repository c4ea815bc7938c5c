/- The two statements of layer 10 on changed encodings. -/
import Derived.Test.YtikokmafofbofaaDctLaw
namespace Go.Proofs.Ytikokmafofbofaa
open Go.RowKit Go.VB Go.VarM Go.BP Go.RL Go.DI Go.KS Go.ChangeShapes Go.WideShapes Go.ChangeAt
open Go.ChangeMaps (open_string)
set_option linter.constructorNameAsVariable false
set_option maxRecDepth 100000 in
set_option maxHeartbeats 4000000 in
theorem dmuts_walk (v0 : Value) (zl : List Int) (p c n : Int) (W : World) (rl : RdI .i64 W W.heap.size v0 zl) (wl : ∀ z ∈ zl, (Lit.int .i64 z).wf = true) (wp : (Lit.int .i64 p).wf = true) (wc : (Lit.int .u8 c).wf = true) (wn : (Lit.int .i64 n).wf = true) :
    Calls Try.prog 7 #[v0, .int .i64 p, .int .u8 c, .int .i64 n] W (RetB (.bool true) W) := by
  have HK := Lib.hid (klist_any W v0 zl rl wl)
  clear rl wl
  obtain ⟨c0, c1⟩ := bounds_u8 wc
  clear wc
  have HPn := fun w => Lib.hid (pick_at n 5 w wn (by omega) (by omega))
  obtain ⟨n0, n1⟩ := pickN_bd n (n := 5) (by omega)
  generalize pickN n 5 = d at *
  clear wn
  go_enter Try.func7, Try.ntmps7
  go_wp2_with fail
  refine HK.out.mono ?_; rintro e w1 ⟨vx, lx, rfl, hown, hlx, hix, hB⟩
  obtain ⟨A, cp, _, rfl, rfl, hc1, hc2⟩ := hown.read.bds
  obtain ⟨hes, hes1⟩ := enc_small hlx hix
  have H1 := Lib.hid (rencode_any _ lx _ w1 hown.read (Nat.le_refl _) (by omega) (small_max hix) (by omega))
  have hse : (str (encD lx)).size ≤ 8000 := by rw [str_size]; omega
  have hs0 : 1 ≤ ((str (encD lx)).size : Int) := by rw [str_size]; omega
  clear HK hown hix hes hes1
  generalize str (encD lx) = S at *
  go_wp2_with fail
  refine H1.out.mono ?_; rintro e w2 ⟨rfl, hb⟩
  replace hB := bel_trans hB hb; clear hb H1
  have HPk := fun w => Lib.hid (pick_at p ((S.size : Int) + 1) w wp (by omega) (by omega))
  obtain ⟨p0, p1⟩ := pickN_bd p (n := (S.size : Int) + 1) (by omega)
  generalize pickN p ((S.size : Int) + 1) = k at *
  obtain ⟨k, rfl⟩ := Int.eq_ofNat_of_zero_le p0
  clear wp
  go_wp2_with fail
  refine (HPk _).out.mono ?_; rintro e w' ⟨rfl, rfl⟩
  clear HPk
  obtain ⟨m, hm1, hm2⟩ : ∃ m : Nat, m ≤ S.size ∧ (if (k : Int) + 1 < (S.size : Int) then (k : Int) + 1 else (S.size : Int)) = (m : Int) := ⟨min S.size (k + 1), by omega, by split <;> omega⟩
  obtain ⟨X, hX⟩ : ∃ X, S.extract 0 k = X := ⟨_, rfl⟩
  obtain ⟨Z, hZ⟩ : ∃ Z, S.extract m S.size = Z := ⟨_, rfl⟩
  have hXs : X.size ≤ 8000 := by rw [← hX, ByteArray.size_extract]; omega
  have hZs : Z.size ≤ 8000 := by rw [← hZ, ByteArray.size_extract]; omega
  have hY1 : (str [UInt8.ofNat c.toNat]).size = 1 := by rw [str_size]; rfl
  have a1 : ∀ w, (Op.stringOp .add X (str [UInt8.ofNat c.toNat])).run Try.prog w = .ok (.string (X ++ str [UInt8.ofNat c.toNat])) w := fun w => run_string_add_sum w _ _ (by rw [hY1]; omega)
  have a2 : ∀ w, (Op.stringOp .add (X ++ str [UInt8.ofNat c.toNat]) Z).run Try.prog w = .ok (.string (X ++ str [UInt8.ofNat c.toNat] ++ Z)) w := fun w => run_string_add_sum w _ _ (by rw [ByteArray.size_append, hY1]; omega)
  have a3 : ∀ w, (Op.stringOp .add S (str [UInt8.ofNat c.toNat])).run Try.prog w = .ok (.string (S ++ str [UInt8.ofNat c.toNat])) w := fun w => run_string_add_sum w _ _ (by rw [hY1]; omega)
  have D1 := fun w => Lib.hid (decodes_any X (lx.length : Int) w (by omega))
  have D2 := fun w => Lib.hid (decodes_any (X ++ str [UInt8.ofNat c.toNat] ++ Z) (lx.length : Int) w (by rw [ByteArray.size_append, ByteArray.size_append, hY1]; omega))
  have D3 := fun w => Lib.hid (decodes_any (S ++ str [UInt8.ofNat c.toNat]) (lx.length : Int) w (by rw [ByteArray.size_append, hY1]; omega))
  have D4 := fun w => Lib.hid (decodes_any S ((lx.length : Int) + d - 2) w (by omega))
  have hconv := run_string1 (P := Try.prog) 37 9 5 Try.underlying37 Try.underlying5 Try.underlying9
  have hconv2 := fun W m => hconv W c m
  have hconvd := run_string1_drew (P := Try.prog) 37 9 5 Try.underlying37 Try.underlying5 Try.underlying9
  have hconv3 := fun W m => hconvd W c m
  have q1 : (0 : Int) ≤ (k : Int) := by omega
  have q2 : (k : Int) ≤ (S.size : Int) := by omega
  have q5 : IntKind.i64.wrap ((k : Int) + 1) = (k : Int) + 1 := IntWalk.i64_in _ ⟨by omega, by omega⟩
  clear hconv hconvd hXs hZs p0 p1 c0 c1 hY1
  generalize str [UInt8.ofNat c.toNat] = Y at *
  go_wp2_with fail
  go_region
  replace hB := (hB.alloc hB.size (.cells #[.int .u8 c] 5)).drew
  clear a1 a2 hconv3 hm1 hm2 hZ q5
  generalize (w2.alloc (.cells #[.int .u8 c] 5)).drew = w3 at hB ⊢
  go_wp2_with fail
  refine (awake10_any _).mono ?_; rintro e w4 ⟨rfl, hb⟩; replace hB := bel_trans hB hb; clear hb
  go_wp2_with fail
  (with_reducible refine (D1 _).out.mono ?_); rintro e w5 ⟨rfl, hb⟩; replace hB := bel_trans hB hb; clear hb
  go_wp2_with fail
  (with_reducible refine (D2 _).out.mono ?_); rintro e w6 ⟨rfl, hb⟩; replace hB := bel_trans hB hb; clear hb
  go_wp2_with fail
  (with_reducible refine (D3 _).out.mono ?_); rintro e w7 ⟨rfl, hb⟩; replace hB := bel_trans (hB.alloc hB.size (.cells #[.int .u8 c] 5)) hb; clear hb
  go_wp2_with fail
  (with_reducible refine (HPn _).out.mono ?_); rintro e w' ⟨rfl, rfl⟩
  go_wp2_with fail
  (with_reducible refine (D4 _).out.mono ?_); rintro e w8 ⟨rfl, hb⟩; replace hB := bel_trans hB hb; clear hb
  clear D1 D2 D3 D4 HPn hconv2 a3
  go_wp2
  go_ret
  exact RetB.mk rfl hB
set_option maxRecDepth 100000 in
set_option maxHeartbeats 4000000 in
theorem dictMutations_lifted (os : Os) (started : os.Started) (H : Type) (enc : TypeId × Value → H) :
    ReturnsInHanded {} Try.checked os 7 .any (Rows.dictMutationsSpec.pre6 enc Try.prog Try.f7 Rows.dictMutationsRow.domain false) (Rows.dictMutationsSpec.post enc Try.prog Try.f7 false true false false) := by
  refine law_lifted (C := Try.checked) (tb := 4) started Try.own Try.laidOut (by kernel_rfl) Try.func7
    (ChangeSpec.witness6 (enc := enc) (C := Try.checked) false ⟨#[], #[.slice none 0 0, .int .i64 0, .int .u8 0, .int .i64 0], []⟩ 8 (by kernel_rfl) (by kernel_rfl) (by kernel_rfl) (by kernel_rfl))
    rfl rfl Try.underlying4 (by kernel_rfl) (fun ds h => ?_) (fun W base args ds p hval0 hA0 hsz0 hlt => ?_)
  · have h' : ds.length = Try.f7.params.toList.length := h
    rw [Try.params7] at h'
    match ds, h' with
    | [_, _, _, _], _ => rfl
  · have hval : ∀ (j : Nat) t v, Try.f7.params[j]? = some t → args[j]? = some v → Value.okWide Try.prog W .any base t v := hval0
    have hA : DataW.TrodAll enc Try.prog W 0 (fun _ => true) true Try.f7.params.toList args.toList ds p := hA0
    have hsz : (DataW.weightsEach Try.prog Try.f7.params.toList ds).all (· ≤ reachBytes) = true := hsz0
    rw [Try.params7] at hA hval hsz
    clear hA0 hval0 hsz0
    obtain ⟨v0, vs0, d0, ds0, p0, q0, hargs, rfl, rfl, h0, r0⟩ := trodAll_cons hA
    obtain ⟨v1, vs1, d1, ds1, p1, q1, rfl, rfl, rfl, h1, r1⟩ := trodAll_cons r0
    obtain ⟨v2, vs2, d2, ds2, p2, q2, rfl, rfl, rfl, h2, r2⟩ := trodAll_cons r1
    obtain ⟨v3, vs3, d3, ds3, p3, q3, rfl, rfl, rfl, h3, r3⟩ := trodAll_cons r2
    obtain ⟨rfl, rfl, rfl⟩ := trodAll_nil r3
    obtain rfl : args = #[v0, v1, v2, v3] := by cases args; simp_all
    obtain ⟨zm, rm, wm, bm⟩ := open_rdI Try.underlying23 Try.underlying3 (by kernel_rfl) (hval 0 23 v0 rfl rfl) h0 hsz (j := 0) rfl rfl
    obtain ⟨p, rfl, rfl, rfl, wp⟩ := open_int Try.underlying3 (hval 1 3 v1 rfl rfl) h1
    obtain ⟨c, rfl, rfl, rfl, wc⟩ := open_int Try.underlying5 (hval 2 5 v2 rfl rfl) h2
    obtain ⟨n, rfl, rfl, rfl, wn⟩ := open_int Try.underlying3 (hval 3 3 v3 rfl rfl) h3
    change Calls Try.prog 7 #[v0, .int .i64 p, .int .u8 c, .int .i64 n] W (RetB (.bool true) W)
    exact dmuts_walk v0 zm p c n W rm wm wp wc wn
theorem dictMutations_holds : Rows.DictMutationsSaid :=
  OpenClaim.holds_of_wide 7 Try.f7 rfl rfl rfl rfl rfl rfl rfl ⟨rfl, rfl, rfl, rfl, rfl⟩ rfl rfl rfl rfl rfl (by kernel_rfl) Try.func7 (by kernel_rfl)
    (of_decide_eq_true (by kernel_rfl)) (by unfold Func.isWrapper; first | (rw [if_pos (by decide +kernel)]; kernel_rfl) | (rw [if_neg (by decide +kernel)]; exact ⟨rfl, rfl⟩))
    (fun os started H enc _ => dictMutations_lifted os started H enc)
set_option maxRecDepth 100000 in
set_option maxHeartbeats 4000000 in
theorem duniq_walk (v0 : Value) (zl : List Int) (p c : Int) (W : World) (rl : RdI .i64 W W.heap.size v0 zl) (wl : ∀ z ∈ zl, (Lit.int .i64 z).wf = true) (wp : (Lit.int .i64 p).wf = true) (wc : (Lit.int .u8 c).wf = true) :
    Calls Try.prog 9 #[v0, .int .i64 p, .int .u8 c] W (RetB (.bool true) W) := by
  have HK := Lib.hid (klist_any W v0 zl rl wl)
  clear rl wl
  obtain ⟨c0, c1⟩ := bounds_u8 wc
  clear wc
  go_enter Try.func9, Try.ntmps9
  go_wp2_with fail
  refine HK.out.mono ?_; rintro e w1 ⟨vx, lx, rfl, hown, hlx, hix, hB⟩
  obtain ⟨A, cp, _, rfl, rfl, hc1, hc2⟩ := hown.read.bds
  obtain ⟨hes, hes1⟩ := enc_small hlx hix
  have H1 := Lib.hid (rencode_any _ lx _ w1 hown.read (Nat.le_refl _) (by omega) (small_max hix) (by omega))
  have hse : (str (encD lx)).size ≤ 8000 := by rw [str_size]; omega
  have hs0 : 1 ≤ ((str (encD lx)).size : Int) := by rw [str_size]; omega
  clear HK hown hix hes hes1
  generalize str (encD lx) = S at *
  go_wp2_with fail
  refine H1.out.mono ?_; rintro e w2 ⟨rfl, hb⟩
  replace hB := bel_trans hB hb; clear hb H1
  have HPk := fun w => Lib.hid (pick_at p (S.size : Int) w wp (by omega) (by omega))
  obtain ⟨p0, p1⟩ := pickN_bd p (n := (S.size : Int)) (by omega)
  generalize pickN p (S.size : Int) = k at *
  obtain ⟨k, rfl⟩ := Int.eq_ofNat_of_zero_le p0
  clear wp
  go_wp2_with fail
  (with_reducible refine (HPk _).out.mono ?_); rintro e w' ⟨rfl, rfl⟩
  clear HPk
  obtain ⟨X, hX⟩ : ∃ X, S.extract 0 k = X := ⟨_, rfl⟩
  obtain ⟨Z, hZ⟩ : ∃ Z, S.extract (k + 1) S.size = Z := ⟨_, rfl⟩
  have hXs : X.size ≤ 8000 := by rw [← hX, ByteArray.size_extract]; omega
  have hZs : Z.size ≤ 8000 := by rw [← hZ, ByteArray.size_extract]; omega
  have hY1 : (str [UInt8.ofNat c.toNat]).size = 1 := by rw [str_size]; rfl
  have a1 : ∀ w, (Op.stringOp .add X (str [UInt8.ofNat c.toNat])).run Try.prog w = .ok (.string (X ++ str [UInt8.ofNat c.toNat])) w := fun w => run_string_add_sum w _ _ (by rw [hY1]; omega)
  have a2 : ∀ w, (Op.stringOp .add (X ++ str [UInt8.ofNat c.toNat]) Z).run Try.prog w = .ok (.string (X ++ str [UInt8.ofNat c.toNat] ++ Z)) w := fun w => run_string_add_sum w _ _ (by rw [ByteArray.size_append, hY1]; omega)
  have hT : (X ++ str [UInt8.ofNat c.toNat] ++ Z).size ≤ 17000 := by rw [ByteArray.size_append, ByteArray.size_append, hY1]; omega
  have hconvd := run_string1_drew (P := Try.prog) 37 9 5 Try.underlying37 Try.underlying5 Try.underlying9
  have hconv3 := fun W m => hconvd W c m
  have q1 : (0 : Int) ≤ (k : Int) := by omega
  have q2 : (k : Int) ≤ (S.size : Int) := by omega
  have q3 : (0 : Int) ≤ (k : Int) + 1 := by omega
  have q4 : (k : Int) + 1 ≤ (S.size : Int) := by omega
  have q5 : IntKind.i64.wrap ((k : Int) + 1) = (k : Int) + 1 := IntWalk.i64_in _ ⟨by omega, by omega⟩
  clear hconvd hXs hZs p0 p1 c0 c1 hY1
  generalize str [UInt8.ofNat c.toNat] = Y at *
  go_wp2_with fail
  go_region
  replace hB := (hB.alloc hB.size (.cells #[.int .u8 c] 5)).drew
  clear a1 a2 hconv3 hX hZ q1 q2 q3 q4 q5
  generalize (w2.alloc (.cells #[.int .u8 c] 5)).drew = w3 at hB ⊢
  generalize X ++ Y ++ Z = T at *
  obtain ⟨⟨r, ec⟩, hR⟩ : ∃ R, decD T (lx.length : Int) = R := ⟨_, rfl⟩
  have H2 := fun w => Lib.hid (decode_any T (by omega) (lx.length : Int) w)
  rw [hR] at H2
  by_cases hec : ec = 0
  · subst hec
    obtain ⟨e1, e2, e3⟩ := decD_only (n := lx.length) (by omega) hR
    have hstr : str (encD r) = T := by rw [e1]; rfl
    have hle : ((r.length : Int) == (lx.length : Int)) = true := by rw [e2]; exact beq_self_eq_true _
    have hrl : r.length ≤ 120 := by omega
    have hrs : (encD r).length ≤ 140737488355328 := by rw [← str_size, hstr]; omega
    have hrz : ∀ x ∈ r, x.size ≤ maxLen := fun x hx => Nat.le_trans (enc_size (by omega) hx) (Nat.le_trans hrs (by decide))
    have E1 := fun v w (h : RdV Value.string w w.heap.size v r) => Lib.hid (encode_any v r _ w h (Nat.le_refl _) (by omega) hrz hrs)
    rw [hstr] at E1
    clear hR e1 e2 e3 hstr hrs hrz
    go_wp2_with fail
    (with_reducible refine (H2 _).out.mono ?_); rintro e w4 ⟨v4, rfl, hown4, hb⟩
    replace hB := bel_trans hB hb
    obtain ⟨A4, c4, _, rfl, rfl, hd1, hd2⟩ := hown4.read.bds
    have hr4 : RdV Value.string w4 w4.heap.size (.slice A4 r.length c4) r := hown4.read
    clear hb hown4 H2
    go_wp2_with fail
    refine (awake10_any _).mono ?_; rintro e w5 ⟨rfl, hb⟩
    replace hr4 := hr4.step hb
    replace hB := bel_trans hB hb; clear hb
    go_wp2_with fail
    (with_reducible refine (E1 _ _ hr4).out.mono ?_); rintro e w6 ⟨rfl, hb⟩
    replace hB := bel_trans hB hb; clear hb hr4 E1
    go_wp2
    go_ret
    exact RetB.mk rfl hB
  · have hd : ((ec : Int) != 0) = true := by simp; omega
    clear hR hec
    go_wp2_with fail
    (with_reducible refine (H2 _).out.mono ?_); rintro e w4 ⟨v4, rfl, _, hb⟩
    replace hB := bel_trans hB hb; clear hb H2
    go_wp2_with fail
    refine (awake10_any _).mono ?_; rintro e w5 ⟨rfl, hb⟩
    replace hB := bel_trans hB hb; clear hb
    go_wp2
    go_ret
    exact RetB.mk rfl hB
set_option maxRecDepth 100000 in
set_option maxHeartbeats 4000000 in
theorem dictIsUnique_lifted (os : Os) (started : os.Started) (H : Type) (enc : TypeId × Value → H) :
    ReturnsInHanded {} Try.checked os 9 .any (Rows.dictIsUniqueSpec.pre6 enc Try.prog Try.f9 Rows.dictIsUniqueRow.domain false) (Rows.dictIsUniqueSpec.post enc Try.prog Try.f9 false true false false) := by
  refine law_lifted (C := Try.checked) (tb := 4) started Try.own Try.laidOut (by kernel_rfl) Try.func9
    (ChangeSpec.witness6 (enc := enc) (C := Try.checked) false ⟨#[], #[.slice none 0 0, .int .i64 0, .int .u8 0], []⟩ 8 (by kernel_rfl) (by kernel_rfl) (by kernel_rfl) (by kernel_rfl))
    rfl rfl Try.underlying4 (by kernel_rfl) (fun ds h => ?_) (fun W base args ds p hval0 hA0 hsz0 hlt => ?_)
  · have h' : ds.length = Try.f9.params.toList.length := h
    rw [Try.params9] at h'
    match ds, h' with
    | [_, _, _], _ => rfl
  · have hval : ∀ (j : Nat) t v, Try.f9.params[j]? = some t → args[j]? = some v → Value.okWide Try.prog W .any base t v := hval0
    have hA : DataW.TrodAll enc Try.prog W 0 (fun _ => true) true Try.f9.params.toList args.toList ds p := hA0
    have hsz : (DataW.weightsEach Try.prog Try.f9.params.toList ds).all (· ≤ reachBytes) = true := hsz0
    rw [Try.params9] at hA hval hsz
    clear hA0 hval0 hsz0
    obtain ⟨v0, vs0, d0, ds0, p0, q0, hargs, rfl, rfl, h0, r0⟩ := trodAll_cons hA
    obtain ⟨v1, vs1, d1, ds1, p1, q1, rfl, rfl, rfl, h1, r1⟩ := trodAll_cons r0
    obtain ⟨v2, vs2, d2, ds2, p2, q2, rfl, rfl, rfl, h2, r2⟩ := trodAll_cons r1
    obtain ⟨rfl, rfl, rfl⟩ := trodAll_nil r2
    obtain rfl : args = #[v0, v1, v2] := by cases args; simp_all
    obtain ⟨zm, rm, wm, bm⟩ := open_rdI Try.underlying23 Try.underlying3 (by kernel_rfl) (hval 0 23 v0 rfl rfl) h0 hsz (j := 0) rfl rfl
    obtain ⟨p, rfl, rfl, rfl, wp⟩ := open_int Try.underlying3 (hval 1 3 v1 rfl rfl) h1
    obtain ⟨c, rfl, rfl, rfl, wc⟩ := open_int Try.underlying5 (hval 2 5 v2 rfl rfl) h2
    change Calls Try.prog 9 #[v0, .int .i64 p, .int .u8 c] W (RetB (.bool true) W)
    exact duniq_walk v0 zm p c W rm wm wp wc
theorem dictIsUnique_holds : Rows.DictIsUniqueSaid :=
  OpenClaim.holds_of_wide 9 Try.f9 rfl rfl rfl rfl rfl rfl rfl ⟨rfl, rfl, rfl, rfl, rfl⟩ rfl rfl rfl rfl rfl (by kernel_rfl) Try.func9 (by kernel_rfl)
    (of_decide_eq_true (by kernel_rfl)) (by unfold Func.isWrapper; first | (rw [if_pos (by decide +kernel)]; kernel_rfl) | (rw [if_neg (by decide +kernel)]; exact ⟨rfl, rfl⟩))
    (fun os started H enc _ => dictIsUnique_lifted os started H enc)
end Go.Proofs.Ytikokmafofbofaa
