/- A statement of layer 12: ChunkMutations. -/
import Derived.Test.YtbolbbngncnecaaGreatCkR9
import Derived.Test.YtbolbbngncnecaaGreatCkK
import Derived.Test.YtbolbbngncnecaaGreatValA
import Derived.BigQuiet
import Derived.Deep.CutRange
import Derived.Deep.RegionWith
namespace Go.CK
open Go.RowKit Go.VB Go.VarM Go.VS Go.VL Go.Proofs.YtbolbbngncnecaaGreat
theorem wf_wrapM (x : Int) : (Lit.int .i64 (wrap64 x)).wf = true := WalkArith.wf_i64 (by unfold wrap64; omega)
theorem okT_pickM (t : Int) : okT (1 + pickN t 5) = true := by
  obtain ⟨h1, h2⟩ := pickN_bd t (n := 5) (by omega)
  exact decide_eq_true (by omega)
theorem pick_tyM (t : Int) : 1 ≤ 1 + pickN t 5 ∧ 1 + pickN t 5 ≤ 5 := by
  obtain ⟨h1, h2⟩ := pickN_bd t (n := 5) (by omega)
  omega
theorem pick4M (c : Int) : ∃ k : Nat, 1 + pickN c 4 = (k : Int) ∧ 1 ≤ k ∧ k ≤ 4 := by
  obtain ⟨h1, h2⟩ := pickN_bd c (n := 4) (by omega)
  exact ⟨(1 + pickN c 4).toNat, by omega, by omega, by omega⟩
theorem cutM_facts {z : Nat} (h5 : 5 ≤ z) (hz : z ≤ 400000) : wrap64 ((z : Int) - 4) = (z : Int) - 4 ∧ IntKind.i64.wrap ((z : Int) - 4) = (z : Int) - 4 ∧ (4 : Int) ≤ (z : Int) ∧ (z : Int) - 4 ≤ (z : Int) ∧ ((z : Int) - 4).toNat = z - 4 ∧ (0 : Int) ≤ (z : Int) - 4 :=
  ⟨by unfold wrap64; omega, IntWalk.i64_in _ ⟨by omega, by omega⟩, by omega, by omega, by omega, by omega⟩
end Go.CK
namespace Go.Proofs.YtbolbbngncnecaaGreat
open Go.RowKit Go.VB Go.VarM Go.BP Go.RL Go.VS Go.VL Go.DI Go.CK Go.NU Go.KV Go.ChangeShapes Go.WideShapes Go.ChangeAt
open Go.ChangeMaps (open_string)
set_option linter.constructorNameAsVariable false
set_option maxRecDepth 100000 in
set_option maxHeartbeats 400000 in
theorem sealed_any (s : ByteArray) (W : World) (zs : s.size ≤ 140737488351000) : Calls Tryz.prog 9 #[.string s] W (RetB (.string (s ++ str (four (crcL s.data.toList)))) W) := by
  have HC := fun w => Lib.hid (crcref_any s w (by omega))
  have HF := fun w => Lib.hid (four_any (crcL s.data.toList) w (crcL_lt _))
  have hf : (str (four (crcL s.data.toList))).size = 4 := by rw [str_size]; rfl
  have ha := fun w => run_string_add_sum (P := Tryz.prog) w s (str (four (crcL s.data.toList))) (by rw [hf]; omega)
  generalize str (four (crcL s.data.toList)) = F at *
  go_enter Tryz.func9, Tryz.ntmps9
  go_wp2_with fail
  (with_reducible refine (HC _).out.mono ?_); rintro e w1 ⟨rfl, hb1⟩
  go_wp2_with fail
  (with_reducible refine (HF _).out.mono ?_); rintro e w2 ⟨rfl, hb2⟩
  have hB := bel_trans hb1 hb2
  go_wp2
  go_ret
  exact RetB.mk rfl hB
set_option maxRecDepth 100000 in
set_option maxHeartbeats 400000 in
theorem cdecodes_any (nm : ByteArray) (ty sc : Int) (nu : Bool) (s : ByteArray) (W : World) (zs : s.size ≤ 140737488351232) : Calls Tryz.prog 11 #[(.agg #[.string nm, .int .i64 ty, .int .i64 sc, .bool nu]), .string s] W (RetB (.bool true) W) := by
  have HB1 := Lib.hid ((Below.refl W.heap.size W).alloc (Nat.le_refl _) (.cells #[.string nm, .int .i64 ty, .int .i64 sc, .bool nu] 24))
  have HS1 := Lib.hid (show (W.alloc (.cells #[.string nm, .int .i64 ty, .int .i64 sc, .bool nu] 24)).heap.size = W.heap.size + 1 from by simp)
  have HVR := Lib.hid (Var4.new W (.string nm) (.int .i64 ty) (.int .i64 sc) (.bool nu) 24)
  have HD := fun w => Lib.hid (cdecode_any nm ty sc nu s w zs)
  have HR := fun w => Lib.hid (rdecchunk_any nm ty sc nu s w zs)
  have HC := fun w => Lib.hid (ccodec_any s w zs)
  have HRC := fun w => Lib.hid (rcodec_any s w zs)
  generalize decC ty nu s = D at *
  generalize codC s = C at *
  obtain ⟨dl, de⟩ := D
  obtain ⟨ck, ce⟩ := C
  simp only at HD HR HC HRC
  have HSM := Lib.hid (fun (x y : Value) (w : World) (h1 : RdL w w.heap.size x dl) (h2 : RdL w w.heap.size y dl) => same_v_eq x y dl w h1 h2)
  obtain ⟨v0, v1, v2, v3⟩ := HVR.out
  go_enter Tryz.func11, Tryz.ntmps11
  go_wp2_with fail
  (with_reducible refine (HD _).out.mono ?_); rintro e w1 ⟨va, rfl, hra, hb1⟩
  clear v0 v1 v2 v3 HD
  obtain ⟨v0, v1, v2, v3⟩ := HVR.out.below hb1 (by rw [HS1.out]; exact Nat.lt_succ_self _)
  go_wp2_with fail
  (with_reducible refine (HR _).out.mono ?_); rintro e w2 ⟨vb, rfl, hrb, hb2⟩
  clear v0 v1 v2 v3 HR
  have hra2 := hra.step hb2
  have hb12 := bel_trans hb1 hb2
  clear hra hb1 hb2
  go_wp2_with fail
  (with_reducible refine (HC _).out.mono ?_); rintro e w3 ⟨rfl, hb3⟩
  have hra3 := hra2.step hb3
  have hrb3 := hrb.step hb3
  have hb13 := bel_trans hb12 hb3
  clear hra2 hrb hb12 hb3 HC
  go_wp2_with fail
  (with_reducible refine (HRC _).out.mono ?_); rintro e w4 ⟨rfl, hb4⟩
  have hra4 := hra3.step hb4
  have hrb4 := hrb3.step hb4
  have hb14 := bel_trans hb13 hb4
  clear hra3 hrb3 hb13 hb4 HRC
  go_wp2_with fail
  (with_reducible refine (HSM.out _ _ _ hra4 hrb4).mono ?_); rintro e w5 ⟨rfl, hb5⟩
  have hB := bel_trans HB1.out (bel_trans hb14 hb5)
  clear hra4 hrb4 hb14 hb5
  go_wp2
  go_ret
  exact RetB.mk rfl hB
set_option maxRecDepth 100000 in
set_option maxHeartbeats 4000000 in
theorem chunkMutations_lifted (os : Os) (started : os.Started) (H : Type) (enc : TypeId × Value → H) :
    ReturnsInHanded {} Tryz.checked os 3 .any (Rows.chunkMutationsSpec.pre6 enc Tryz.prog Tryz.f3 Rows.chunkMutationsRow.domain false) (Rows.chunkMutationsSpec.post enc Tryz.prog Tryz.f3 false true false false) := by
  refine law_lifted (C := Tryz.checked) (tb := 4) started Tryz.own Tryz.laidOut (by kernel_rfl) Tryz.func3
    (ChangeSpec.witness6 (enc := enc) (C := Tryz.checked) false ⟨#[], #[.int .i64 0, .bool false, .slice none 0 0, .int .i64 0, .int .i64 0, .int .u8 0, .bool false], []⟩ 8 (by kernel_rfl) (by kernel_rfl) (by kernel_rfl) (by kernel_rfl))
    rfl rfl Tryz.underlying4 (by kernel_rfl) (fun ds h => ?_) (fun W base args ds p hval0 hA0 hsz0 hlt => ?_)
  · have h' : ds.length = Tryz.f3.params.toList.length := h
    rw [Tryz.params3] at h'
    match ds, h' with
    | [_, _, _, _, _, _, _], _ => rfl
  · have hval : ∀ (j : Nat) t v, Tryz.f3.params[j]? = some t → args[j]? = some v → Value.okWide Tryz.prog W .any base t v := hval0
    have hA : DataW.TrodAll enc Tryz.prog W 0 (fun _ => true) true Tryz.f3.params.toList args.toList ds p := hA0
    have hsz : (DataW.weightsEach Tryz.prog Tryz.f3.params.toList ds).all (· ≤ reachBytes) = true := hsz0
    rw [Tryz.params3] at hA hval hsz
    clear hA0 hval0 hsz0
    obtain ⟨v0, vs0, d0, ds0, p0, q0, hargs, rfl, rfl, h0, r0⟩ := trodAll_cons hA
    obtain ⟨v1, vs1, d1, ds1, p1, q1, rfl, rfl, rfl, h1, r1⟩ := trodAll_cons r0
    obtain ⟨v2, vs2, d2, ds2, p2, q2, rfl, rfl, rfl, h2, r2⟩ := trodAll_cons r1
    obtain ⟨v3, vs3, d3, ds3, p3, q3, rfl, rfl, rfl, h3, r3⟩ := trodAll_cons r2
    obtain ⟨v4, vs4, d4, ds4, p4, q4, rfl, rfl, rfl, h4, r4⟩ := trodAll_cons r3
    obtain ⟨v5, vs5, d5, ds5, p5, q5, rfl, rfl, rfl, h5, r5⟩ := trodAll_cons r4
    obtain ⟨v6, vs6, d6, ds6, p6, q6, rfl, rfl, rfl, h6, r6⟩ := trodAll_cons r5
    obtain ⟨rfl, rfl, rfl⟩ := trodAll_nil r6
    obtain rfl : args = #[v0, v1, v2, v3, v4, v5, v6] := by cases args; simp_all
    obtain ⟨t, rfl, rfl, rfl, wt⟩ := open_int Tryz.underlying3 (hval 0 3 v0 rfl rfl) h0
    obtain ⟨null, rfl, rfl, rfl⟩ := open_bool Tryz.underlying4 (hval 1 4 v1 rfl rfl) h1
    obtain ⟨zm, rm, wm, bm⟩ := open_rdI Tryz.underlying22 Tryz.underlying3 (by kernel_rfl) (hval 2 22 v2 rfl rfl) h2 hsz (j := 2) rfl rfl
    obtain ⟨codec, rfl, rfl, rfl, wcodec⟩ := open_int Tryz.underlying3 (hval 3 3 v3 rfl rfl) h3
    obtain ⟨at', rfl, rfl, rfl, wat'⟩ := open_int Tryz.underlying3 (hval 4 3 v4 rfl rfl) h4
    obtain ⟨b, rfl, rfl, rfl, wb⟩ := open_int Tryz.underlying5 (hval 5 5 v5 rfl rfl) h5
    obtain ⟨fix, rfl, rfl, rfl⟩ := open_bool Tryz.underlying4 (hval 6 4 v6 rfl rfl) h6
    change Calls Tryz.prog 3 #[.int .i64 t, .bool null, v2, .int .i64 codec, .int .i64 at', .int .u8 b, .bool fix] W (RetB (.bool true) W)
    clear bm
    have HCOL := fun w => Lib.hid (column_any t null w wt)
    have HCOL2 := fun w => Lib.hid (column_any (wrap64 (t + 1)) null w (wf_wrapM _))
    have hty := pick_tyM t
    have hT := okT_pickM t
    generalize 1 + pickN t 5 = ty at *
    generalize 1 + pickN (wrap64 (t + 1)) 5 = ty2 at *
    have HPK := fun w => Lib.hid (pick_at codec 4 w wcodec (by omega) (by omega))
    obtain ⟨k, hk, k1, k4⟩ := pick4M codec
    have hpb := pickN_bd codec (n := 4) (by omega)
    generalize pickN codec 4 = p at *
    have hwp : wrap64 (1 + p) = (k : Int) := by unfold wrap64; omega
    have HKV := fun w r => Lib.hid (kvals_any w v2 zm ⟨#[120]⟩ ty 0 null r wm hty)
    have HB8 := Lib.hid (bounds_u8 wb)
    have HT := Lib.hid hT; have HK1 := Lib.hid k1; have HK4 := Lib.hid k4
    clear hk hpb hty wcodec wb hT k1 k4
    go_enter Tryz.func3, Tryz.ntmps3
    go_wp2_with fail
    (with_reducible refine (HCOL _).out.mono ?_); rintro e w1 ⟨rfl, hb1⟩
    have HB1 := Lib.hid hb1
    have hba := (Below.refl w1.heap.size w1).alloc (Nat.le_refl _) (.cells #[.string ⟨#[120]⟩, .int .i64 ty, .int .i64 0, .bool null] 24)
    have HV := Lib.hid (Var4.new w1 (.string ⟨#[120]⟩) (.int .i64 ty) (.int .i64 0) (.bool null) 24)
    have HBA := Lib.hid hba
    have HSZ := Lib.hid (show (w1.alloc (.cells #[.string ⟨#[120]⟩, .int .i64 ty, .int .i64 0, .bool null] 24)).heap.size = w1.heap.size + 1 by simp)
    have hrm := (rm.step hb1).step hba
    have HVV := Lib.hid (show ∀ w, Below (w1.alloc (.cells #[.string ⟨#[120]⟩, .int .i64 ty, .int .i64 0, .bool null] 24)).heap.size (w1.alloc (.cells #[.string ⟨#[120]⟩, .int .i64 ty, .int .i64 0, .bool null] 24)) w → Var4 w w1.heap.size (.string ⟨#[120]⟩) (.int .i64 ty) (.int .i64 0) (.bool null) from fun w hb => HV.out.below hb (by rw [HSZ.out]; exact Nat.lt_succ_self _))
    have HRM := Lib.hid hrm
    clear hb1 hba rm wm HCOL HV hrm
    obtain ⟨v0, v1, v2', v3⟩ := HVV.out (w1.alloc (.cells #[.string ⟨#[120]⟩, .int .i64 ty, .int .i64 0, .bool null] 24)) (Below.refl _ _)
    go_wp2_with fail
    (with_reducible refine (HPK _).out.mono ?_); rintro e w' ⟨rfl, rfl⟩
    clear HPK
    go_upto_region 3 with fail
    rw [hwp]
    clear hwp
    go_cut [17] from 26 to 31 (fun sv w' => ∃ T : List UInt8, sv = .string (str T) ∧ 5 ≤ T.length ∧ T.length ≤ 330004 ∧ Below (w1.alloc (.cells #[.string ⟨#[120]⟩, .int .i64 ty, .int .i64 0, .bool null] 24)).heap.size (w1.alloc (.cells #[.string ⟨#[120]⟩, .int .i64 ty, .int .i64 0, .bool null] 24)) w')
    case first =>
      have hz0 : Below (w1.alloc (.cells #[.string ⟨#[120]⟩, .int .i64 ty, .int .i64 0, .bool null] 24)).heap.size (w1.alloc (.cells #[.string ⟨#[120]⟩, .int .i64 ty, .int .i64 0, .bool null] 24)) (w1.alloc (.cells #[.string ⟨#[120]⟩, .int .i64 ty, .int .i64 0, .bool null] 24)).drew := (Below.refl _ _).drew
      go_region_with (first
        | (go_at_call 8; (with_reducible refine (HKV _ ?_).out.mono ?_); (first | (with_reducible exact HRM.out) | exact HRM.out.step hz0); rintro e w3 ⟨vx, lx, rfl, hown, hlx, hcx, hbx, hb3⟩; have hrx := hown.read; have hB3 : Below (w1.alloc (.cells #[.string ⟨#[120]⟩, .int .i64 ty, .int .i64 0, .bool null] 24)).heap.size (w1.alloc (.cells #[.string ⟨#[120]⟩, .int .i64 ty, .int .i64 0, .bool null] 24)) w3 := bel_trans hz0 hb3; have hv3 := HVV.out w3 hB3; obtain ⟨q0, q1, q2, q3⟩ := hv3; have HOK := Lib.hid (ok_of HT.out hcx hbx); have HLX := Lib.hid hlx; clear hown hlx hcx hbx)
        | (go_at_call 7; (with_reducible refine (cbuild_any ⟨#[120]⟩ ty 0 null k vx lx w3 HK1.out HK4.out hrx (Nat.le_trans HLX.out (by decide)) HOK.out).mono ?_); rintro e w4 ⟨rfl, hb4⟩))
      all_goals
        have HBF := Lib.hid (bel_trans hB3 hb4)
        have HLE := Lib.hid (build_le (typ := ty) (k := k) (Nat.le_trans HLX.out (by decide)) HOK.out)
        have HGE := Lib.hid (build_len ty k lx)
        clear hrx hb3 hb4 hB3 HOK HLX
        go_wp2_with fail
        go_meet
        case rel => exact ⟨_, rfl, HGE.out, HLE.out, HBF.out⟩
    case rest =>
      obtain ⟨T, rfl, h5, hle, hB2⟩ := hcut
      have hsT := str_size T
      generalize str T = S at *
      have h5S : 5 ≤ S.size := by omega
      have hi330 : S.size ≤ 330004 := by omega
      clear hsT h5 hle
      have HPk := fun w => Lib.hid (pick_at at' (S.size : Int) w wat' (by omega) (by omega))
      obtain ⟨p0, p1⟩ := pickN_bd at' (n := (S.size : Int)) (by omega)
      generalize pickN at' (S.size : Int) = i at *
      obtain ⟨i, rfl⟩ := Int.eq_ofNat_of_zero_le p0
      have hi2 : i + 1 ≤ S.size := by omega
      have HB2 := Lib.hid hB2
      clear wat' p0 p1 hB2 v0 v1 v2' v3 HKV HRM
      go_wp2_with fail
      (with_reducible refine (HPk _).out.mono ?_); rintro e w' ⟨rfl, rfl⟩
      clear HPk
      obtain ⟨X, hX⟩ : ∃ X, S.extract 0 i = X := ⟨_, rfl⟩
      obtain ⟨Z, hZ⟩ : ∃ Z, S.extract (i + 1) S.size = Z := ⟨_, rfl⟩
      have hXs : X.size = i := by rw [← hX, ByteArray.size_extract]; omega
      have hZs : Z.size = S.size - (i + 1) := by rw [← hZ, ByteArray.size_extract]; omega
      obtain ⟨b0, b1⟩ := HB8.out
      have hY1 : (str [UInt8.ofNat b.toNat]).size = 1 := by rw [str_size]; rfl
      have a1 : ∀ w, (Op.stringOp .add X (str [UInt8.ofNat b.toNat])).run Tryz.prog w = .ok (.string (X ++ str [UInt8.ofNat b.toNat])) w := fun w => run_string_add_sum w _ _ (by rw [hY1]; omega)
      have a2 : ∀ w, (Op.stringOp .add (X ++ str [UInt8.ofNat b.toNat]) Z).run Tryz.prog w = .ok (.string (X ++ str [UInt8.ofNat b.toNat] ++ Z)) w := fun w => run_string_add_sum w _ _ (by rw [ByteArray.size_append, hY1]; omega)
      have hconvd := run_string1_drew (P := Tryz.prog) 30 9 5 Tryz.underlying30 Tryz.underlying5 Tryz.underlying9
      have hconv3 := fun W m => hconvd W b m
      have HUS := Lib.hid (show (X ++ str [UInt8.ofNat b.toNat] ++ Z).size = S.size by rw [ByteArray.size_append, ByteArray.size_append, hY1]; omega)
      have q1 : (0 : Int) ≤ (i : Int) := by omega
      have q2 : (i : Int) ≤ (S.size : Int) := by omega
      have q3 : (0 : Int) ≤ (i : Int) + 1 := by omega
      have q4 : (i : Int) + 1 ≤ (S.size : Int) := by omega
      have q5 : IntKind.i64.wrap ((i : Int) + 1) = (i : Int) + 1 := IntWalk.i64_in _ ⟨by omega, by omega⟩
      clear hconvd hXs hZs b0 b1 hY1 hi2
      generalize str [UInt8.ofNat b.toNat] = Y at *
      go_wp2_with fail
      go_region
      have hbz : Below (w1.alloc (.cells #[.string ⟨#[120]⟩, .int .i64 ty, .int .i64 0, .bool null] 24)).heap.size (w1.alloc (.cells #[.string ⟨#[120]⟩, .int .i64 ty, .int .i64 0, .bool null] 24)) (wc.alloc (.cells #[.int .u8 b] 5)).drew := (HB2.out.alloc HB2.out.size _).drew
      generalize (wc.alloc (.cells #[.int .u8 b] 5)).drew = w5 at hbz ⊢
      clear a1 a2 hconv3 hX hZ q1 q2 q3 q4 q5
      have hus := HUS.out
      generalize X ++ Y ++ Z = U at *
      have HD1 := fun w => Lib.hid (cdecodes_any ⟨#[120]⟩ ty 0 null S w (by omega))
      have HD3 := fun w => Lib.hid (cdecodes_any ⟨#[120]⟩ ty2 0 null S w (by omega))
      cases fix
      · have HD2 := fun w => Lib.hid (cdecodes_any ⟨#[120]⟩ ty 0 null U w (by omega))
        have HBZ := Lib.hid hbz
        clear hus HUS hbz h5S hi330 HB2
        go_wp2_with fail
        (with_reducible refine (awake12_any _).mono ?_); rintro e w6 ⟨rfl, hb6⟩
        have hb26 := bel_trans HBZ.out hb6
        obtain ⟨v0, v1, v2', v3⟩ := HVV.out _ hb26
        go_wp2_with fail
        (with_reducible refine (HD1 _).out.mono ?_); rintro e w8 ⟨rfl, hb8⟩
        have hb28 := bel_trans hb26 hb8
        clear v0 v1 v2' v3 hb26 hb8 HD1
        obtain ⟨v0, v1, v2', v3⟩ := HVV.out _ hb28
        go_wp2_with fail
        (with_reducible refine (HD2 _).out.mono ?_); rintro e w9 ⟨rfl, hb9⟩
        have hb29 := bel_trans hb28 hb9
        clear v0 v1 v2' v3 hb28 hb9 HD2
        go_wp2_with fail
        (with_reducible refine (HCOL2 _).out.mono ?_); rintro e w10 ⟨rfl, hb10⟩
        have hb210 := bel_trans hb29 hb10
        clear hb29 hb10 HCOL2
        go_wp2_with fail
        (with_reducible refine (HD3 _).out.mono ?_); rintro e w11 ⟨rfl, hb11⟩
        have hB := bel_trans (bel_trans HB1.out HBA.out) (bel_trans hb210 hb11)
        clear hb210 hb11 HD3
        go_wp2
        go_ret
        exact RetB.mk rfl hB
      · obtain ⟨c1, c2, c3, c4, c5, c6⟩ := cutM_facts (z := U.size) (by omega) (by omega)
        obtain ⟨V, hV⟩ : ∃ V, U.extract 0 (U.size - 4) = V := ⟨_, rfl⟩
        have hVs : V.size ≤ 330004 := by rw [← hV, ByteArray.size_extract]; omega
        have HSE := fun w => Lib.hid (sealed_any V w (by omega))
        have HD2 := fun w => Lib.hid (cdecodes_any ⟨#[120]⟩ ty 0 null (V ++ str (four (crcL V.data.toList))) w (by rw [ByteArray.size_append, show (str (four (crcL V.data.toList))).size = 4 from by rw [str_size]; rfl]; omega))
        generalize V ++ str (four (crcL V.data.toList)) = VV at *
        have HBZ := Lib.hid hbz
        clear hus HUS hbz h5S hi330 HB2 hVs
        go_wp2_with fail
        (with_reducible refine (HSE _).out.mono ?_); rintro e w6 ⟨rfl, hb6⟩
        have hb25 := bel_trans HBZ.out hb6
        clear c1 c2 c3 c4 c5 c6 hb6 HSE hV
        go_wp2_with fail
        (with_reducible refine (awake12_any _).mono ?_); rintro e w7 ⟨rfl, hb7⟩
        have hb26 := bel_trans hb25 hb7
        obtain ⟨v0, v1, v2', v3⟩ := HVV.out _ hb26
        go_wp2_with fail
        (with_reducible refine (HD1 _).out.mono ?_); rintro e w8 ⟨rfl, hb8⟩
        have hb28 := bel_trans hb26 hb8
        clear v0 v1 v2' v3 hb26 hb8 HD1
        obtain ⟨v0, v1, v2', v3⟩ := HVV.out _ hb28
        go_wp2_with fail
        (with_reducible refine (HD2 _).out.mono ?_); rintro e w9 ⟨rfl, hb9⟩
        have hb29 := bel_trans hb28 hb9
        clear v0 v1 v2' v3 hb28 hb9 HD2
        go_wp2_with fail
        (with_reducible refine (HCOL2 _).out.mono ?_); rintro e w10 ⟨rfl, hb10⟩
        have hb210 := bel_trans hb29 hb10
        clear hb29 hb10 HCOL2
        go_wp2_with fail
        (with_reducible refine (HD3 _).out.mono ?_); rintro e w11 ⟨rfl, hb11⟩
        have hB := bel_trans (bel_trans HB1.out HBA.out) (bel_trans hb210 hb11)
        clear hb210 hb11 HD3
        go_wp2
        go_ret
        exact RetB.mk rfl hB
theorem chunkMutations_holds : Rows.ChunkMutationsSaid :=
  OpenClaim.holds_of_wide 3 Tryz.f3 rfl rfl rfl rfl rfl rfl rfl ⟨rfl, rfl, rfl, rfl, rfl⟩ rfl rfl rfl rfl rfl (by kernel_rfl) Tryz.func3 (by kernel_rfl)
    (of_decide_eq_true (by kernel_rfl)) (by unfold Func.isWrapper; first | (rw [if_pos (by decide +kernel)]; kernel_rfl) | (rw [if_neg (by decide +kernel)]; exact ⟨rfl, rfl⟩))
    (fun os started H enc _ => chunkMutations_lifted os started H enc)
end Go.Proofs.YtbolbbngncnecaaGreat
