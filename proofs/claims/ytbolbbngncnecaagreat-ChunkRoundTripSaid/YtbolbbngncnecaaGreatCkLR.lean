/- A statement of layer 12: ChunkRoundTrip. -/
import Derived.Test.YtbolbbngncnecaaGreatCkL
namespace Go.Proofs.YtbolbbngncnecaaGreat
open Go.RowKit Go.VB Go.VarM Go.BP Go.RL Go.VS Go.VL Go.DI Go.CK Go.NU Go.KV Go.ChangeShapes Go.WideShapes Go.ChangeAt
open Go.ChangeMaps (open_string)
set_option linter.constructorNameAsVariable false
set_option maxRecDepth 100000 in
set_option maxHeartbeats 4000000 in
theorem chunkRoundTrip_lifted (os : Os) (started : os.Started) (H : Type) (enc : TypeId × Value → H) :
    ReturnsInHanded {} Tryz.checked os 4 .any (Rows.chunkRoundTripSpec.pre6 enc Tryz.prog Tryz.f4 Rows.chunkRoundTripRow.domain false) (Rows.chunkRoundTripSpec.post enc Tryz.prog Tryz.f4 false true false false) := by
  refine law_lifted (C := Tryz.checked) (tb := 4) started Tryz.own Tryz.laidOut (by kernel_rfl) Tryz.func4
    (ChangeSpec.witness6 (enc := enc) (C := Tryz.checked) false ⟨#[], #[.int .i64 0, .bool false, .slice none 0 0], []⟩ 8 (by kernel_rfl) (by kernel_rfl) (by kernel_rfl) (by kernel_rfl))
    rfl rfl Tryz.underlying4 (by kernel_rfl) (fun ds h => ?_) (fun W base args ds p hval0 hA0 hsz0 hlt => ?_)
  · have h' : ds.length = Tryz.f4.params.toList.length := h
    rw [Tryz.params4] at h'
    match ds, h' with
    | [_, _, _], _ => rfl
  · have hval : ∀ (j : Nat) t v, Tryz.f4.params[j]? = some t → args[j]? = some v → Value.okWide Tryz.prog W .any base t v := hval0
    have hA : DataW.TrodAll enc Tryz.prog W 0 (fun _ => true) true Tryz.f4.params.toList args.toList ds p := hA0
    have hsz : (DataW.weightsEach Tryz.prog Tryz.f4.params.toList ds).all (· ≤ reachBytes) = true := hsz0
    rw [Tryz.params4] at hA hval hsz
    clear hA0 hval0 hsz0
    obtain ⟨v0, vs0, d0, ds0, p0, q0, hargs, rfl, rfl, h0, r0⟩ := trodAll_cons hA
    obtain ⟨v1, vs1, d1, ds1, p1, q1, rfl, rfl, rfl, h1, r1⟩ := trodAll_cons r0
    obtain ⟨v2, vs2, d2, ds2, p2, q2, rfl, rfl, rfl, h2, r2⟩ := trodAll_cons r1
    obtain ⟨rfl, rfl, rfl⟩ := trodAll_nil r2
    obtain rfl : args = #[v0, v1, v2] := by cases args; simp_all
    obtain ⟨t, rfl, rfl, rfl, wt⟩ := open_int Tryz.underlying3 (hval 0 3 v0 rfl rfl) h0
    obtain ⟨null, rfl, rfl, rfl⟩ := open_bool Tryz.underlying4 (hval 1 4 v1 rfl rfl) h1
    obtain ⟨zm, rm, wm, bm⟩ := open_rdI Tryz.underlying22 Tryz.underlying3 (by kernel_rfl) (hval 2 22 v2 rfl rfl) h2 hsz (j := 2) rfl rfl
    change Calls Tryz.prog 4 #[.int .i64 t, .bool null, v2] W (RetB (.bool true) W)
    clear bm
    have HCOL := fun w => Lib.hid (column_any t null w wt)
    have hty := pick_ty t
    have hT := okT_pick t
    generalize 1 + pickN t 5 = ty at *
    have HKV := fun w r => Lib.hid (kvals_any w v2 zm ⟨#[120]⟩ ty 0 null r wm hty)
    go_enter Tryz.func4, Tryz.ntmps4
    go_wp2_with fail
    (with_reducible refine (HCOL _).out.mono ?_); rintro e w1 ⟨rfl, hb1⟩
    have HB1 := Lib.hid hb1
    have hba := (Below.refl w1.heap.size w1).alloc (Nat.le_refl _) (.cells #[.string ⟨#[120]⟩, .int .i64 ty, .int .i64 0, .bool null] 24)
    have HV := Lib.hid (Var4.new w1 (.string ⟨#[120]⟩) (.int .i64 ty) (.int .i64 0) (.bool null) 24)
    have HBA := Lib.hid hba
    have HSZ := Lib.hid (show (w1.alloc (.cells #[.string ⟨#[120]⟩, .int .i64 ty, .int .i64 0, .bool null] 24)).heap.size = w1.heap.size + 1 by simp)
    have hrm := (rm.step hb1).step hba
    clear hb1 hba rm wm HCOL
    go_wp2_with fail
    (with_reducible refine (HKV _ hrm).out.mono ?_); rintro e w2 ⟨vx, lx, rfl, hown, hlx, hcx, hbx, hb2⟩
    have hrx := hown.read
    have HXR := Lib.hid hrx
    have henc : encE ty null lx = 0 := encE_none hT (by omega) hcx
    obtain ⟨k, k1, k4, ku, hbest⟩ := best_nat ty lx
    have hok := ok_of hT hcx hbx
    have hble := build_le (typ := ty) (k := k) (l := lx) (by omega) hok
    have HENC := Lib.hid (cenc_any ⟨#[120]⟩ ty 0 null vx lx w2 hrx hbx)
    rw [encS_ok henc, henc, hbest] at HENC
    have HDEC := fun w => Lib.hid (cdecode_any ⟨#[120]⟩ ty 0 null (str (buildB ty k lx)) w (by rw [str_size]; omega))
    rw [decC_build hT ku (by omega) hcx hbx] at HDEC
    have HSM := Lib.hid (fun (y : Value) (w : World) (h1 : RdL w w.heap.size vx lx) (h2 : RdL w w.heap.size y lx) => same_v_eq vx y lx w h1 h2)
    generalize str (buildB ty k lx) = S at *
    obtain ⟨v0, v1, v2, v3⟩ := HV.out.below hb2 (by rw [HSZ.out]; exact Nat.lt_succ_self _)
    have HB2 := Lib.hid hb2
    clear henc hbest hok hble hcx hbx hown hrm HKV hb2 hrx hT hty k1 k4 ku
    go_wp2_with fail
    (with_reducible refine HENC.out.mono ?_); rintro e w3 ⟨rfl, hb3⟩
    have hr3 := HXR.out.step hb3
    have hB3 := bel_trans HB2.out hb3
    obtain ⟨v0, v1, v2, v3⟩ := HV.out.below hB3 (by rw [HSZ.out]; exact Nat.lt_succ_self _)
    clear HENC hb3
    go_wp2_with fail
    (with_reducible refine (HDEC _).out.mono ?_); rintro e w4 ⟨vy, rfl, hry, hb4⟩
    have hr4 := hr3.step hb4
    have hB4 := bel_trans hB3 hb4
    clear HDEC hb4 hr3 v0 v1 v2 v3 hB3
    go_wp2_with fail
    (with_reducible refine (awake12_any _).mono ?_); rintro e w5 ⟨rfl, hb5⟩
    have hr5 := hr4.step hb5
    have hry5 := hry.step hb5
    have hB5 := bel_trans hB4 hb5
    clear hr4 hry hb5 hB4
    go_wp2_with fail
    (with_reducible refine (HSM.out vy _ hr5 hry5).mono ?_); rintro e w6 ⟨rfl, hb6⟩
    have hB6 := bel_trans (bel_trans HB1.out HBA.out) (bel_trans hB5 hb6)
    clear hr5 hry5 hb6 hB5
    go_wp2
    go_ret
    exact RetB.mk rfl hB6
theorem chunkRoundTrip_holds : Rows.ChunkRoundTripSaid :=
  OpenClaim.holds_of_wide 4 Tryz.f4 rfl rfl rfl rfl rfl rfl rfl ⟨rfl, rfl, rfl, rfl, rfl⟩ rfl rfl rfl rfl rfl (by kernel_rfl) Tryz.func4 (by kernel_rfl)
    (of_decide_eq_true (by kernel_rfl)) (by unfold Func.isWrapper; first | (rw [if_pos (by decide +kernel)]; kernel_rfl) | (rw [if_neg (by decide +kernel)]; exact ⟨rfl, rfl⟩))
    (fun os started H enc _ => chunkRoundTrip_lifted os started H enc)
end Go.Proofs.YtbolbbngncnecaaGreat
