/- A statement of layer 12: ChunkIsLeast. -/
import Derived.Test.YtbolbbngncnecaaCkL
namespace Go.CK
open Go.RowKit Go.VB Go.VarM Go.VS Go.VL Go.Proofs.Ytbolbbngncnecaa
/-- The tests of one codec i against the chosen k, by the sizes of the chunks. -/
theorem least_facts {z n i k : Nat} (hle : z ≤ n) (hlt : i < k → z < n) :
    decide ((n : Int) < (z : Int)) = false ∧ decide (n < z) = false ∧ ((decide ((i : Int) < (k : Int)) = true ∧ decide (i < k) = true ∧ ((n : Int) == (z : Int)) = false ∧ (n == z) = false) ∨ (decide ((i : Int) < (k : Int)) = false ∧ decide (i < k) = false)) := by
  refine ⟨decide_eq_false (by omega), decide_eq_false (by omega), ?_⟩
  by_cases h : i < k
  · have := hlt h
    exact .inl ⟨decide_eq_true (by omega), decide_eq_true h, beq_eq_false_iff_ne.2 (by omega), beq_eq_false_iff_ne.2 (by omega)⟩
  · exact .inr ⟨decide_eq_false (by omega), decide_eq_false h⟩
theorem up_facts {i : Nat} (h : i ≤ 4) : decide ((i : Int) ≤ 4) = true ∧ wrap64 ((i : Int) + 1) = ((i + 1 : Nat) : Int) := ⟨decide_eq_true (by omega), by unfold wrap64; omega⟩
end Go.CK
namespace Go.Proofs.Ytbolbbngncnecaa
open Go.RowKit Go.VB Go.VarM Go.BP Go.RL Go.VS Go.VL Go.DI Go.CK Go.NU Go.KV Go.ChangeShapes Go.WideShapes Go.ChangeAt
open Go.ChangeMaps (open_string)
set_option linter.constructorNameAsVariable false
set_option maxRecDepth 100000 in
set_option maxHeartbeats 4000000 in
theorem chunkIsLeast_lifted (os : Os) (started : os.Started) (H : Type) (enc : TypeId × Value → H) :
    ReturnsInHanded {} Try.checked os 6 .any (Rows.chunkIsLeastSpec.pre6 enc Try.prog Try.f6 Rows.chunkIsLeastRow.domain false) (Rows.chunkIsLeastSpec.post enc Try.prog Try.f6 false true false false) := by
  refine law_lifted (C := Try.checked) (tb := 4) started Try.own Try.laidOut (by kernel_rfl) Try.func6
    (ChangeSpec.witness6 (enc := enc) (C := Try.checked) false ⟨#[], #[.int .i64 0, .bool false, .slice none 0 0], []⟩ 8 (by kernel_rfl) (by kernel_rfl) (by kernel_rfl) (by kernel_rfl))
    rfl rfl Try.underlying4 (by kernel_rfl) (fun ds h => ?_) (fun W base args ds p hval0 hA0 hsz0 hlt => ?_)
  · have h' : ds.length = Try.f6.params.toList.length := h
    rw [Try.params6] at h'
    match ds, h' with
    | [_, _, _], _ => rfl
  · have hval : ∀ (j : Nat) t v, Try.f6.params[j]? = some t → args[j]? = some v → Value.okWide Try.prog W .any base t v := hval0
    have hA : DataW.TrodAll enc Try.prog W 0 (fun _ => true) true Try.f6.params.toList args.toList ds p := hA0
    have hsz : (DataW.weightsEach Try.prog Try.f6.params.toList ds).all (· ≤ reachBytes) = true := hsz0
    rw [Try.params6] at hA hval hsz
    clear hA0 hval0 hsz0
    obtain ⟨v0, vs0, d0, ds0, p0, q0, hargs, rfl, rfl, h0, r0⟩ := trodAll_cons hA
    obtain ⟨v1, vs1, d1, ds1, p1, q1, rfl, rfl, rfl, h1, r1⟩ := trodAll_cons r0
    obtain ⟨v2, vs2, d2, ds2, p2, q2, rfl, rfl, rfl, h2, r2⟩ := trodAll_cons r1
    obtain ⟨rfl, rfl, rfl⟩ := trodAll_nil r2
    obtain rfl : args = #[v0, v1, v2] := by cases args; simp_all
    obtain ⟨t, rfl, rfl, rfl, wt⟩ := open_int Try.underlying3 (hval 0 3 v0 rfl rfl) h0
    obtain ⟨null, rfl, rfl, rfl⟩ := open_bool Try.underlying4 (hval 1 4 v1 rfl rfl) h1
    obtain ⟨zm, rm, wm, bm⟩ := open_rdI Try.underlying32 Try.underlying3 (by kernel_rfl) (hval 2 32 v2 rfl rfl) h2 hsz (j := 2) rfl rfl
    change Calls Try.prog 6 #[.int .i64 t, .bool null, v2] W (RetB (.bool true) W)
    clear bm
    have HCOL := fun w => Lib.hid (column_any t null w wt)
    have hty := pick_ty t
    have hT := okT_pick t
    generalize 1 + pickN t 5 = ty at *
    have HKV := fun w r => Lib.hid (kvals_any w v2 zm ⟨#[120]⟩ ty 0 null r wm hty)
    go_enter Try.func6, Try.ntmps6
    go_wp2_with fail
    (with_reducible refine (HCOL _).out.mono ?_); rintro e w1 ⟨rfl, hb1⟩
    have HB1 := Lib.hid hb1
    have hba := (Below.refl w1.heap.size w1).alloc (Nat.le_refl _) (.cells #[.string ⟨#[120]⟩, .int .i64 ty, .int .i64 0, .bool null] 26)
    have HV := Lib.hid (Var4.new w1 (.string ⟨#[120]⟩) (.int .i64 ty) (.int .i64 0) (.bool null) 26)
    have HBA := Lib.hid hba
    have HSZ := Lib.hid (show (w1.alloc (.cells #[.string ⟨#[120]⟩, .int .i64 ty, .int .i64 0, .bool null] 26)).heap.size = w1.heap.size + 1 by simp)
    have hrm := (rm.step hb1).step hba
    clear hb1 hba rm wm HCOL
    go_wp2_with fail
    (with_reducible refine (HKV _ hrm).out.mono ?_); rintro e w2 ⟨vx, lx, rfl, hown, hlx, hcx, hbx, hb2⟩
    have hrx := hown.read
    have HXR := Lib.hid hrx
    have henc : encE ty null lx = 0 := encE_none hT (by omega) hcx
    obtain ⟨k, k1, k4, ku, hbest, hsp⟩ := best_spec ty lx
    have hok := ok_of hT hcx hbx
    have hble := build_le (typ := ty) (k := k) (l := lx) (by omega) hok
    have HENC := Lib.hid (cenc_any ⟨#[120]⟩ ty 0 null vx lx w2 hrx hbx)
    rw [encS_ok henc, henc, hbest] at HENC
    have HCD := fun w => Lib.hid (ccodec_any (str (buildB ty k lx)) w (by rw [str_size]; omega))
    rw [codC_build k1 k4] at HCD
    have HUK := fun w => Lib.hid (uses_any ty (k : Int) w)
    rw [ku] at HUK
    have HU := fun i w => Lib.hid (uses_any ty i w)
    have HBU := Lib.hid (fun (i : Nat) w h1 h4 hr => cbuild_any ⟨#[120]⟩ ty 0 null i vx lx w h1 h4 hr (by omega) hok)
    have HSP := Lib.hid (show ∀ i : Nat, uses ty i = true → (str (buildB ty k lx)).size ≤ (str (buildB ty i lx)).size ∧ (i < k → (str (buildB ty k lx)).size < (str (buildB ty i lx)).size) from fun i h => by rw [str_size, str_size]; exact hsp i h)
    generalize str (buildB ty k lx) = S at *
    have HVV := Lib.hid (show ∀ w, Below w2.heap.size w2 w → Var4 w w1.heap.size (.string ⟨#[120]⟩) (.int .i64 ty) (.int .i64 0) (.bool null) from fun w hb => HV.out.below (bel_trans hb2 hb) (by rw [HSZ.out]; exact Nat.lt_succ_self _))
    have HB2 := Lib.hid hb2
    clear henc hbest hok hble hcx hbx hown hrm HKV hb2 hrx hT hty ku hsp k1 k4 hlx
    obtain ⟨v0, v1, v2', v3⟩ := HVV.out _ (Below.refl _ _)
    go_wp2_with fail
    (with_reducible refine HENC.out.mono ?_); rintro e w3 ⟨rfl, hb3⟩
    clear v0 v1 v2' v3 HENC
    obtain ⟨v0, v1, v2', v3⟩ := HVV.out _ hb3
    go_wp2_with fail
    (with_reducible refine (HCD _).out.mono ?_); rintro e w4 ⟨rfl, hb4⟩
    clear v0 v1 v2' v3 HCD
    have hb24 := bel_trans hb3 hb4
    obtain ⟨v0, v1, v2', v3⟩ := HVV.out _ hb24
    go_wp2_with fail
    (with_reducible refine (HUK _).out.mono ?_); rintro e w5 ⟨rfl, hb5⟩
    have hb25 := bel_trans hb24 hb5
    clear v0 v1 v2' v3 HUK hb3 hb4 hb24 hb5
    go_wp2_with fail
    go_loopw [6, 13] (fun r iv wr => ∃ i : Nat, r = .bool false ∧ iv = .int .i64 i ∧ 1 ≤ i ∧ i ≤ 5 ∧ Below w2.heap.size w2 wr) (fun _ iv _ => 5 - (intOf iv).toNat)
    case atStart => exact ⟨1, rfl, rfl, by omega, by omega, hb25⟩
    case round =>
      clear hb25
      obtain ⟨i, rfl, rfl, hi1, hi5, hbel⟩ := hrel
      by_cases h4 : i ≤ 4
      · obtain ⟨hd4, hw4⟩ := up_facts h4
        obtain ⟨v0, v1, v2', v3⟩ := HVV.out _ hbel
        have HUi := fun w => Lib.hid (HU (i : Int) w).out
        have HBi := Lib.hid (fun w hr => HBU.out i w hi1 h4 hr)
        have HSi := Lib.hid (HSP.out i)
        generalize str (buildB ty i lx) = T at HBi HSi
        cases hu : uses ty (i : Int)
        · rw [hu] at HUi
          clear hu
          go_wp2_with fail
          (with_reducible refine (HUi _).out.mono ?_); rintro e w6 ⟨rfl, hb6⟩
          have hb26 := bel_trans hbel hb6
          clear v0 v1 v2' v3 hbel hb6
          go_wp2_with fail
          go_roundw
          case rel => exact ⟨i + 1, rfl, by go_num, by omega, by omega, hb26⟩
          case measure => simp [intOf] <;> omega
        · rw [hu] at HUi
          obtain ⟨hle, hlt⟩ := HSi.out hu
          obtain ⟨e1, e2, e3⟩ := least_facts hle hlt
          clear hu hle hlt HSi
          go_wp2_with fail
          (with_reducible refine (HUi _).out.mono ?_); rintro e w6 ⟨rfl, hb6⟩
          have hb26 := bel_trans hbel hb6
          clear v0 v1 v2' v3 hbel hb6
          obtain ⟨v0, v1, v2', v3⟩ := HVV.out _ hb26
          have hr6 := HXR.out.step hb26
          have E3 := Lib.hid e3
          clear e3
          go_wp2_with fail
          (with_reducible refine (HBi.out _ hr6).mono ?_); rintro e w7 ⟨rfl, hb7⟩
          have hb27 := bel_trans hb26 hb7
          clear v0 v1 v2' v3 hb26 hb7 hr6
          rcases E3.out with ⟨f1, f2, f3, f4⟩ | ⟨f1, f2⟩
          · go_wp2_with fail
            go_roundw
            case rel => exact ⟨i + 1, rfl, by go_num, by omega, by omega, hb27⟩
            case measure => simp [intOf] <;> omega
          · go_wp2_with fail
            go_roundw
            case rel => exact ⟨i + 1, rfl, by go_num, by omega, by omega, hb27⟩
            case measure => simp [intOf] <;> omega
      · have hi : i = 5 := by omega
        subst hi
        go_wp2_with fail
        (with_reducible refine (awake12_any _).mono ?_); rintro e w6 ⟨rfl, hb6⟩
        have hB := bel_trans (bel_trans HB1.out HBA.out) (bel_trans HB2.out (bel_trans hbel hb6))
        go_wp2
        go_ret
        exact RetB.mk rfl hB
theorem chunkIsLeast_holds : Rows.ChunkIsLeastSaid :=
  OpenClaim.holds_of_wide 6 Try.f6 rfl rfl rfl rfl rfl rfl rfl ⟨rfl, rfl, rfl, rfl, rfl⟩ rfl rfl rfl rfl rfl (by kernel_rfl) Try.func6 (by kernel_rfl)
    (of_decide_eq_true (by kernel_rfl)) (by unfold Func.isWrapper; first | (rw [if_pos (by decide +kernel)]; kernel_rfl) | (rw [if_neg (by decide +kernel)]; exact ⟨rfl, rfl⟩))
    (fun os started H enc _ => chunkIsLeast_lifted os started H enc)
end Go.Proofs.Ytbolbbngncnecaa
