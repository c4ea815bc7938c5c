/- BatchSortOnce. -/
import Derived.Test.YtjbkeipagdmlpaaBtP
import Derived.Test.YtjbkeipagdmlpaaBtO
namespace Go.Proofs.Ytjbkeipagdmlpaa
open Go.RowKit Go.VB Go.VS Go.SC Go.CK Go.ST Go.MK Go.RS Go.ChangeShapes Go.WideShapes Go.ChangeAt
set_option linter.constructorNameAsVariable false
set_option maxRecDepth 100000 in
set_option maxHeartbeats 4000000 in
theorem batchSortOnce_lifted (os : Os) (started : os.Started) (H : Type) (enc : TypeId × Value → H) :
    ReturnsInHanded {} Try.checked os 8 .any (Rows.batchSortOnceSpec.pre6 enc Try.prog Try.f8 Rows.batchSortOnceRow.domain false) (Rows.batchSortOnceSpec.post enc Try.prog Try.f8 false true false false) := by
  refine law_lifted (C := Try.checked) (tb := 4) started Try.own Try.laidOut (by kernel_rfl) Try.func8
    (ChangeSpec.witness6 (enc := enc) (C := Try.checked) false ⟨#[], #[.slice none 0 0, .slice none 0 0], []⟩ 8 (by kernel_rfl) (by kernel_rfl) (by kernel_rfl) (by kernel_rfl))
    rfl rfl Try.underlying4 (by kernel_rfl) (fun ds h => ?_) (fun W base args ds p hval0 hA0 hsz0 hlt => ?_)
  · have h' : ds.length = Try.f8.params.toList.length := h
    rw [Try.params8] at h'
    match ds, h' with
    | [_, _], _ => rfl
  · have hval : ∀ (j : Nat) t v, Try.f8.params[j]? = some t → args[j]? = some v → Value.okWide Try.prog W .any base t v := hval0
    have hA : DataW.TrodAll enc Try.prog W 0 (fun _ => true) true Try.f8.params.toList args.toList ds p := hA0
    have hsz : (DataW.weightsEach Try.prog Try.f8.params.toList ds).all (· ≤ reachBytes) = true := hsz0
    rw [Try.params8] at hA hval hsz
    clear hA0 hval0 hsz0
    obtain ⟨v0, vs0, d0, ds0, p0, q0, hargs, rfl, rfl, h0, r0⟩ := trodAll_cons hA
    obtain ⟨v1, vs1, d1, ds1, p1, q1, rfl, rfl, rfl, h1, r1⟩ := trodAll_cons r0
    obtain ⟨rfl, rfl, rfl⟩ := trodAll_nil r1
    obtain rfl : args = #[v0, v1] := by cases args; simp_all
    obtain ⟨zx, rx, wx, bx⟩ := open_rdI Try.underlying30 Try.underlying3 (by kernel_rfl) (hval 0 30 v0 rfl rfl) h0 hsz (j := 0) rfl rfl
    obtain ⟨zl, rl, wl, bl⟩ := open_rdI Try.underlying30 Try.underlying3 (by kernel_rfl) (hval 1 30 v1 rfl rfl) h1 hsz (j := 1) rfl rfl
    change Calls Try.prog 8 #[v0, v1] W (RetB (.bool true) W)
    have hK := Lib.hid (kSch_any W v0 zx rx wx)
    go_enter Try.func8, Try.ntmps8
    go_wp2_with fail
    (with_reducible refine hK.out.mono ?_); rintro e w1 ⟨hb1, yv, ycs, yk, rfl, hoy, hko⟩
    have hyr := OwnC.read hoy
    obtain ⟨yA, yc, rfl, -, -, -⟩ := id hyr
    have hVy := Var2.new w1 (.slice yA ycs.length yc) (.int .i64 yk) 28
    have hba := (Below.refl w1.heap.size w1).alloc (Nat.le_refl _) (.cells #[(.slice yA ycs.length yc), .int .i64 yk] 28)
    obtain ⟨X1, hX1⟩ : ∃ X, w1.alloc (.cells #[(.slice yA ycs.length yc), .int .i64 yk] 28) = X := ⟨_, rfl⟩
    rw [hX1] at hVy hba
    have HX1 := Lib.hid hX1
    have hB1 := bel_trans hb1 hba
    have hyr1 := hyr.step hba
    have hL0 := (krecs_any X1 ycs (.slice yA ycs.length yc) yk v1 zl 12 (by decide) hyr1 (kok_12 hko) (kok_ty hko) (rl.step hB1) wl)
    rw [show ((12 : Nat) : Int) = 12 from rfl] at hL0
    have hL := Lib.hid hL0
    clear hX1 hK hb1 hoy hba hyr hL0
    go_wp2_with fail
    rw [HX1.out]
    generalize Value.slice yA ycs.length yc = yv at *
    (with_reducible refine hL.out.mono ?_); rintro e w2 ⟨u, ls, rfl, hz, hzl, hok, hpw, hb2⟩
    have hB2 := bel_trans hB1 hb2
    have hy2 := hyr1.step hb2
    have hV2 := hVy.step hb2
    clear hL hyr1 hVy
    obtain ⟨hs1, hs2⟩ := recs_sorted hko hok hpw
    have hln : (sortR ycs yk ls).length * 32 ≤ 140737488351232 := by have := @sortR_len ycs yk ls; omega
    obtain ⟨Z, hZ⟩ : ∃ Z, sortR ycs yk ls = Z := ⟨_, rfl⟩
    rw [hZ] at hs1 hs2 hln hz
    clear hZ hok hpw hzl hko
    have HA := fun w => Lib.hid (awake15_any w)
    have HSD := fun w (h : Below w2.heap.size w2 w) => Lib.hid (show Calls Try.prog 25 #[.agg #[yv, .int .i64 yk], u] w (RetB (.bool true) w) from by
      have h2 := bsorted_any ycs yv yk u Z w (hy2.step h) (hz.step h)
      rw [hs1] at h2; exact h2)
    have HSO := fun w (h : Below w2.heap.size w2 w) => Lib.hid (show Calls Try.prog 28 #[.agg #[yv, .int .i64 yk], u] w (RetRs 41 Z w) from by
      have h2 := bsort_any ycs yv yk u Z w (hy2.step h) (hz.step h) hln
      rw [hs2] at h2; exact h2)
    have HZ := fun w (h : Below w2.heap.size w2 w) => Lib.hid (hz.step h)
    have HV := fun w (h : Below w2.heap.size w2 w) => Lib.hid (hV2.step h)
    have HB2 := Lib.hid hB2
    clear hy2 hz hV2 hB2 hb2 hs1 hs2 hln hB1
    go_wp2_with (first
      | (go_at_call 16; (with_reducible refine (HA _).out.mono ?_); rintro e w3 ⟨rfl, hb3⟩; have HB3 := Lib.hid hb3; obtain ⟨y0, y1, -, -⟩ := (HV w3 hb3).out; clear hb3)
      | (go_at_call 25; (with_reducible refine (HSD _ HB3.out).out.mono ?_); rintro e w4 ⟨rfl, hb4⟩; have HB4 := Lib.hid (bel_trans HB3.out hb4); obtain ⟨y0, y1, -, -⟩ := (HV w4 HB4.out).out; clear hb4)
      | (go_at_call 28; (with_reducible refine (HSO _ HB4.out).out.mono ?_); rintro e w5 ⟨u5, ps5, rfl, ho5, hd5, hb5⟩; have HR5 := Lib.hid (Go.RS.OwnK.rdR ho5 hd5); have HB5 := Lib.hid (bel_trans HB4.out hb5); clear ho5 hd5 hb5)
      | (go_at_call 27; (with_reducible refine (same_recs _ _ Z Z w5 HR5.out (HZ w5 HB5.out).out).mono ?_); rintro e w6 ⟨b, rfl, hbb, hb6⟩; obtain rfl : b = true := hbb.2 rfl))
    go_ret
    exact RetB.mk rfl (bel_trans HB2.out (bel_trans HB5.out hb6))
theorem batchSortOnce_holds : Rows.BatchSortOnceSaid :=
  OpenClaim.holds_of_wide 8 Try.f8 rfl rfl rfl rfl rfl rfl rfl ⟨rfl, rfl, rfl, rfl, rfl⟩ rfl rfl rfl rfl rfl (by kernel_rfl) Try.func8 (by kernel_rfl)
    (of_decide_eq_true (by kernel_rfl)) (by unfold Func.isWrapper; first | (rw [if_pos (by decide +kernel)]; kernel_rfl) | (rw [if_neg (by decide +kernel)]; exact ⟨rfl, rfl⟩))
    (fun os started H enc _ => batchSortOnce_lifted os started H enc)
end Go.Proofs.Ytjbkeipagdmlpaa
