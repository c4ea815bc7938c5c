/- Statements of layer 12: ChunkCodecs, ChunkRefuses. -/
import Derived.Test.YtbolbbngncnecaaCkL
namespace Go.CK
open Go.RowKit Go.VB Go.VarM Go.VS Go.VL Go.Proofs.Ytbolbbngncnecaa
theorem bN_build (typ : Int) (k : Nat) (l : List Vl) (hk : k ≤ 4) : bN ((str (buildB typ k l)).extract 0 ((str (buildB typ k l)).size - 4)) 0 = k := by
  have hx : (str (buildB typ k l)).extract 0 ((str (buildB typ k l)).size - 4) = str (bodyB typ k l) := by
    have hl : (four (crcL (bodyB typ k l))).length = 4 := rfl
    unfold buildB
    rw [extract_str, str_toList, List.drop_zero, str_size, List.length_append, hl, show (bodyB typ k l).length + 4 - 4 - 0 = (bodyB typ k l).length from by omega, List.take_left]
  rw [hx, bN_str]
  unfold bodyB
  show (UInt8.ofNat (k : Int).toNat).toNat = k
  rw [Int.toNat_natCast]
  exact u8_small (by omega)
theorem decC_no {typ : Int} {nu : Bool} {k : Nat} {l : List Vl} (hT : okT typ = true) (hk : k ≤ 4) (hu : uses typ k = false) : decC typ nu (str (buildB typ k l)) = ([], 2) := by
  rw [decC_fin hT (sound_of_build typ k l), valD_use (by rw [bN_build typ k l hk]; exact hu)]
  rfl
theorem pick4 (c : Int) : ∃ k : Nat, 1 + pickN c 4 = (k : Int) ∧ 1 ≤ k ∧ k ≤ 4 := by
  obtain ⟨h1, h2⟩ := pickN_bd c (n := 4) (by omega)
  exact ⟨(1 + pickN c 4).toNat, by omega, by omega, by omega⟩
end Go.CK
namespace Go.Proofs.Ytbolbbngncnecaa
open Go.RowKit Go.VB Go.VarM Go.BP Go.RL Go.VS Go.VL Go.DI Go.CK Go.NU Go.KV Go.ChangeShapes Go.WideShapes Go.ChangeAt
open Go.ChangeMaps (open_string)
set_option linter.constructorNameAsVariable false
set_option maxRecDepth 100000 in
set_option maxHeartbeats 4000000 in
theorem chunkCodecs_lifted (os : Os) (started : os.Started) (H : Type) (enc : TypeId × Value → H) :
    ReturnsInHanded {} Try.checked os 5 .any (Rows.chunkCodecsSpec.pre6 enc Try.prog Try.f5 Rows.chunkCodecsRow.domain false) (Rows.chunkCodecsSpec.post enc Try.prog Try.f5 false true false false) := by
  refine law_lifted (C := Try.checked) (tb := 4) started Try.own Try.laidOut (by kernel_rfl) Try.func5
    (ChangeSpec.witness6 (enc := enc) (C := Try.checked) false ⟨#[], #[.int .i64 0, .bool false, .slice none 0 0, .int .i64 0], []⟩ 8 (by kernel_rfl) (by kernel_rfl) (by kernel_rfl) (by kernel_rfl))
    rfl rfl Try.underlying4 (by kernel_rfl) (fun ds h => ?_) (fun W base args ds p hval0 hA0 hsz0 hlt => ?_)
  · have h' : ds.length = Try.f5.params.toList.length := h
    rw [Try.params5] at h'
    match ds, h' with
    | [_, _, _, _], _ => rfl
  · have hval : ∀ (j : Nat) t v, Try.f5.params[j]? = some t → args[j]? = some v → Value.okWide Try.prog W .any base t v := hval0
    have hA : DataW.TrodAll enc Try.prog W 0 (fun _ => true) true Try.f5.params.toList args.toList ds p := hA0
    have hsz : (DataW.weightsEach Try.prog Try.f5.params.toList ds).all (· ≤ reachBytes) = true := hsz0
    rw [Try.params5] at hA hval hsz
    clear hA0 hval0 hsz0
    obtain ⟨v0, vs0, d0, ds0, p0, q0, hargs, rfl, rfl, h0, r0⟩ := trodAll_cons hA
    obtain ⟨v1, vs1, d1, ds1, p1, q1, rfl, rfl, rfl, h1, r1⟩ := trodAll_cons r0
    obtain ⟨v2, vs2, d2, ds2, p2, q2, rfl, rfl, rfl, h2, r2⟩ := trodAll_cons r1
    obtain ⟨v3, vs3, d3, ds3, p3, q3, rfl, rfl, rfl, h3, r3⟩ := trodAll_cons r2
    obtain ⟨rfl, rfl, rfl⟩ := trodAll_nil r3
    obtain rfl : args = #[v0, v1, v2, v3] := by cases args; simp_all
    obtain ⟨t, rfl, rfl, rfl, wt⟩ := open_int Try.underlying3 (hval 0 3 v0 rfl rfl) h0
    obtain ⟨null, rfl, rfl, rfl⟩ := open_bool Try.underlying4 (hval 1 4 v1 rfl rfl) h1
    obtain ⟨zm, rm, wm, bm⟩ := open_rdI Try.underlying32 Try.underlying3 (by kernel_rfl) (hval 2 32 v2 rfl rfl) h2 hsz (j := 2) rfl rfl
    obtain ⟨codec, rfl, rfl, rfl, wcodec⟩ := open_int Try.underlying3 (hval 3 3 v3 rfl rfl) h3
    change Calls Try.prog 5 #[.int .i64 t, .bool null, v2, .int .i64 codec] W (RetB (.bool true) W)
    clear bm
    have HCOL := fun w => Lib.hid (column_any t null w wt)
    have hty := pick_ty t
    have hT := okT_pick t
    generalize 1 + pickN t 5 = ty at *
    have HPK := fun w => Lib.hid (pick_at codec 4 w wcodec (by omega) (by omega))
    obtain ⟨k, hk, k1, k4⟩ := pick4 codec
    have hpb := pickN_bd codec (n := 4) (by omega)
    generalize pickN codec 4 = p at *
    have hwp : wrap64 (1 + p) = (k : Int) := by unfold wrap64; omega
    have HKV := fun w r => Lib.hid (kvals_any w v2 zm ⟨#[120]⟩ ty 0 null r wm hty)
    have HKK := Lib.hid hk
    clear hk hpb
    go_enter Try.func5, Try.ntmps5
    go_wp2_with fail
    (with_reducible refine (HCOL _).out.mono ?_); rintro e w1 ⟨rfl, hb1⟩
    have HB1 := Lib.hid hb1
    have hba := (Below.refl w1.heap.size w1).alloc (Nat.le_refl _) (.cells #[.string ⟨#[120]⟩, .int .i64 ty, .int .i64 0, .bool null] 26)
    have HV := Lib.hid (Var4.new w1 (.string ⟨#[120]⟩) (.int .i64 ty) (.int .i64 0) (.bool null) 26)
    have HBA := Lib.hid hba
    have HSZ := Lib.hid (show (w1.alloc (.cells #[.string ⟨#[120]⟩, .int .i64 ty, .int .i64 0, .bool null] 26)).heap.size = w1.heap.size + 1 by simp)
    have hrm := (rm.step hb1).step hba
    clear hb1 hba rm wm HCOL
    go_wp2_with fail
    (with_reducible refine (HPK _).out.mono ?_); rintro e w' ⟨rfl, rfl⟩
    clear HPK
    go_wp2_with fail
    (with_reducible refine (HKV _ hrm).out.mono ?_); rintro e w2 ⟨vx, lx, rfl, hown, hlx, hcx, hbx, hb2⟩
    have hrx := hown.read
    have HXR := Lib.hid hrx
    have hok := ok_of hT hcx hbx
    have hble := build_le (typ := ty) (k := k) (l := lx) (by omega) hok
    have HBU := Lib.hid (show ∀ w, Below w2.heap.size w2 w → Hid (Calls Try.prog 18 #[(.agg #[.string ⟨#[120]⟩, .int .i64 ty, .int .i64 0, .bool null]), .int .i64 (k : Int), vx] w (RetB (.string (str (buildB ty k lx))) w)) from fun w hb => Lib.hid (cbuild_any ⟨#[120]⟩ ty 0 null k vx lx w k1 k4 (hrx.step hb) (by omega) hok))
    have HDEC := fun w => Lib.hid (cdecode_any ⟨#[120]⟩ ty 0 null (str (buildB ty k lx)) w (by rw [str_size]; omega))
    have HU := fun w => Lib.hid (uses_any ty (k : Int) w)
    have HSM := Lib.hid (fun (y : Value) (w : World) (h1 : RdL w w.heap.size vx lx) (h2 : RdL w w.heap.size y lx) => same_v_eq vx y lx w h1 h2)
    have HVV := Lib.hid (show ∀ w, Below w2.heap.size w2 w → Var4 w w1.heap.size (.string ⟨#[120]⟩) (.int .i64 ty) (.int .i64 0) (.bool null) from fun w hb => HV.out.below (bel_trans hb2 hb) (by rw [HSZ.out]; exact Nat.lt_succ_self _))
    have HB2 := Lib.hid hb2
    have HNO := Lib.hid (fun h => decC_no (nu := null) (l := lx) hT k4 h)
    have HYES := Lib.hid (fun h => decC_build (typ := ty) (codec := k) (nu := null) (l := lx) hT h (by omega) hcx hbx)
    generalize str (buildB ty k lx) = S at *
    clear hok hble hcx hbx hown hrm HKV hb2 hrx hT hty k1 k4
    have hvv := HVV.out w2 (Below.refl _ _)
    obtain ⟨v0, v1, v2', v3⟩ := hvv
    go_upto_region 4 with fail
    go_cut [12, 13] from 23 to 31 (fun yv ev w' => ∃ y, yv = y ∧ ev = .int .i64 ((decC ty null S).2 : Nat) ∧ RdL w' w'.heap.size y (decC ty null S).1 ∧ Below w2.heap.size w2 w')
    case first =>
      go_region_with (first
        | (go_at_call 18; (with_reducible refine (HBU.out _ ?_).out.mono ?_); (first | exact (Below.refl _ _).drew | exact Below.refl _ _); rintro e w3 ⟨rfl, hb3⟩; have hB3 : Below w2.heap.size w2 w3 := bel_trans (by go_grown) hb3; (have hv3 := HVV.out w3 hB3); obtain ⟨q0, q1, q2, q3⟩ := hv3)
        | (go_at_call 17; (with_reducible refine (HDEC _).out.mono ?_); rintro e w4 ⟨vy, rfl, hry, hb4⟩))
      all_goals
        go_wp2_with fail
        go_meet
        case rel => exact ⟨vy, rfl, rfl, hry, bel_trans hB3 hb4⟩
    case rest =>
      obtain ⟨vy, rfl, rfl, hry, hB4⟩ := hcut
      have hr4 := HXR.out.step hB4
      have hvv := HVV.out _ hB4
      obtain ⟨q0, q1, q2, q3⟩ := hvv
      have HRY := Lib.hid hry; have HR4 := Lib.hid hr4; have HB4 := Lib.hid hB4
      clear hry hr4 hB4 HBU HDEC v0 v1 v2' v3
      cases hu : uses ty (k : Int)
      · rw [hu] at HU
        have HD := Lib.hid (HNO.out hu)
        clear hu
        rw [HD.out]
        have hry := HRY.out
        rw [HD.out] at hry
        obtain ⟨Ay, cy, _, rfl, hly, _, _⟩ := hry.bds
        simp only [List.length_nil] at hly
        subst hly
        clear hry
        go_wp2_with fail
        (with_reducible refine (HU _).out.mono ?_); rintro e w5 ⟨rfl, hb5⟩
        go_wp2_with fail
        (with_reducible refine (awake12_any _).mono ?_); rintro e w6 ⟨rfl, hb6⟩
        have hB := bel_trans (bel_trans (bel_trans (bel_trans (bel_trans HB1.out HBA.out) HB2.out) HB4.out) hb5) hb6
        go_wp2
        go_ret
        exact RetB.mk rfl hB
      · rw [hu] at HU
        have HD := Lib.hid (HYES.out hu)
        clear hu
        rw [HD.out]
        have hry := HRY.out
        rw [HD.out] at hry
        go_wp2_with fail
        (with_reducible refine (HU _).out.mono ?_); rintro e w5 ⟨rfl, hb5⟩
        have hr5 := HR4.out.step hb5
        have hry5 := hry.step hb5
        clear hry
        go_wp2_with fail
        (with_reducible refine (awake12_any _).mono ?_); rintro e w6 ⟨rfl, hb6⟩
        have hr6 := hr5.step hb6
        have hry6 := hry5.step hb6
        clear hr5 hry5
        go_wp2_with fail
        (with_reducible refine (HSM.out _ _ hr6 hry6).mono ?_); rintro e w7 ⟨rfl, hb7⟩
        have hB := bel_trans (bel_trans (bel_trans (bel_trans (bel_trans (bel_trans HB1.out HBA.out) HB2.out) HB4.out) hb5) hb6) hb7
        clear hr6 hry6
        go_wp2
        go_ret
        exact RetB.mk rfl hB
theorem chunkCodecs_holds : Rows.ChunkCodecsSaid :=
  OpenClaim.holds_of_wide 5 Try.f5 rfl rfl rfl rfl rfl rfl rfl ⟨rfl, rfl, rfl, rfl, rfl⟩ rfl rfl rfl rfl rfl (by kernel_rfl) Try.func5 (by kernel_rfl)
    (of_decide_eq_true (by kernel_rfl)) (by unfold Func.isWrapper; first | (rw [if_pos (by decide +kernel)]; kernel_rfl) | (rw [if_neg (by decide +kernel)]; exact ⟨rfl, rfl⟩))
    (fun os started H enc _ => chunkCodecs_lifted os started H enc)
end Go.Proofs.Ytbolbbngncnecaa
