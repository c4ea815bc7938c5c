/- Statements of layer 14: ZoneOfs. -/
import Derived.Test.YthohmngckpjlbaaZoL1
import Derived.Test.YthohmngckpjlbaaConfl
namespace Go.Proofs.Ythohmngckpjlbaa
open Go.RowKit Go.VB Go.VL Go.VS Go.ZN Go.CK Go.ChangeShapes Go.WideShapes Go.ChangeAt
set_option linter.constructorNameAsVariable false
set_option maxRecDepth 100000 in
set_option maxHeartbeats 4000000 in
theorem zoneOfs_lifted (os : Os) (started : os.Started) (H : Type) (enc : TypeId × Value → H) :
    ReturnsInHanded {} Try.checked os 4 .any (Rows.zoneOfsSpec.pre6 enc Try.prog Try.f4 Rows.zoneOfsRow.domain false) (Rows.zoneOfsSpec.post enc Try.prog Try.f4 false true false false) := by
  refine law_lifted (C := Try.checked) (tb := 4) started Try.own Try.laidOut (by kernel_rfl) Try.func4
    (ChangeSpec.witness6 (enc := enc) (C := Try.checked) false ⟨#[], #[.int .i64 0, .slice none 0 0, .int .i64 0, .bool false, .slice none 0 0], []⟩ 8 (by kernel_rfl) (by kernel_rfl) (by kernel_rfl) (by kernel_rfl))
    rfl rfl Try.underlying4 (by kernel_rfl) (fun ds h => ?_) (fun W base args ds p hval0 hA0 hsz0 hlt => ?_)
  · have h' : ds.length = Try.f4.params.toList.length := h
    rw [Try.params4] at h'
    match ds, h' with
    | [_, _, _, _, _], _ => rfl
  · have hval : ∀ (j : Nat) t v, Try.f4.params[j]? = some t → args[j]? = some v → Value.okWide Try.prog W .any base t v := hval0
    have hA : DataW.TrodAll enc Try.prog W 0 (fun _ => true) true Try.f4.params.toList args.toList ds p := hA0
    have hsz : (DataW.weightsEach Try.prog Try.f4.params.toList ds).all (· ≤ reachBytes) = true := hsz0
    rw [Try.params4] at hA hval hsz
    clear hA0 hval0 hsz0
    obtain ⟨v0, vs0, d0, ds0, p0, q0, hargs, rfl, rfl, h0, r0⟩ := trodAll_cons hA
    obtain ⟨v1, vs1, d1, ds1, p1, q1, rfl, rfl, rfl, h1, r1⟩ := trodAll_cons r0
    obtain ⟨v2, vs2, d2, ds2, p2, q2, rfl, rfl, rfl, h2, r2⟩ := trodAll_cons r1
    obtain ⟨v3, vs3, d3, ds3, p3, q3, rfl, rfl, rfl, h3, r3⟩ := trodAll_cons r2
    obtain ⟨v4, vs4, d4, ds4, p4, q4, rfl, rfl, rfl, h4, r4⟩ := trodAll_cons r3
    obtain ⟨rfl, rfl, rfl⟩ := trodAll_nil r4
    obtain rfl : args = #[v0, v1, v2, v3, v4] := by cases args; simp_all
    obtain ⟨typ, rfl, rfl, rfl, wtyp⟩ := open_int Try.underlying3 (hval 0 3 v0 rfl rfl) h0
    obtain ⟨zraw, rraw, braw, mraw⟩ := open_vls (hval 1 27 v1 rfl rfl) h1 hsz (j := 1) rfl rfl
    obtain ⟨t, rfl, rfl, rfl, wt⟩ := open_int Try.underlying3 (hval 2 3 v2 rfl rfl) h2
    obtain ⟨null, rfl, rfl, rfl⟩ := open_bool Try.underlying4 (hval 3 4 v3 rfl rfl) h3
    obtain ⟨zl, rl, wl, bl⟩ := open_rdI Try.underlying30 Try.underlying3 (by kernel_rfl) (hval 4 30 v4 rfl rfl) h4 hsz (j := 4) rfl rfl
    change Calls Try.prog 4 #[.int .i64 typ, v1, .int .i64 t, .bool null, v4] W (RetB (.bool true) W)
    clear bl mraw braw
    have HCOL := fun w => Lib.hid (column_any t null w wt)
    have hty := pick_ty t
    have hT := okT_pick t
    generalize 1 + pickN t 5 = ty at *
    have HKV := fun w r => Lib.hid (kvals_any w v4 zl ⟨#[120]⟩ ty 0 null r wl hty)
    clear wt
    go_enter Try.func4, Try.ntmps4
    go_wp2_with fail
    (with_reducible refine (HCOL _).out.mono ?_); rintro e w1 ⟨rfl, hb1⟩
    have hba := (Below.refl w1.heap.size w1).alloc (Nat.le_refl _) (.cells #[.string ⟨#[120]⟩, .int .i64 ty, .int .i64 0, .bool null] 32)
    have hc1 := Var4.new w1 (.string ⟨#[120]⟩) (.int .i64 ty) (.int .i64 0) (.bool null) 32
    have hr1 := (rraw.step hb1).step hba
    have hl1 := (rl.step hb1).step hba
    have hB1 := bel_trans hb1 hba
    clear hb1 hba rl wl rraw HCOL hty
    go_wp2_with fail
    (with_reducible refine (HKV _ hl1).out.mono ?_); rintro e w2 ⟨vx, lx, rfl, hown, hlx, hcx, hbx, hb2⟩
    have hx2 := hown.read
    have hc2 := hc1.step hb2
    have hr2 := hr1.step hb2
    have hB2 := bel_trans hB1 hb2
    clear hb2 hl1 HKV hown hc1 hr1 hB1 hbx
    have HCK := Lib.hid (zchk_zof (ty := ty) (nu := null) hT (show lx.length ≤ 4096 by omega) hcx)
    clear hcx hlx hT
    obtain ⟨k0, k1, k2, k3⟩ := id hc2
    go_wp2_with fail
    (with_reducible refine (zof_any ty vx lx _ hx2).mono ?_); rintro e w3 ⟨rfl, hb3⟩
    have hx3 := hx2.step hb3
    have hc3 := hc2.step hb3
    have hr3 := hr2.step hb3
    have hB3 := bel_trans hB2 hb3
    clear hb3 hx2 hc2 hr2 hB2 k0 k1 k2 k3
    have hO5 := fun w (h : RdL w w.heap.size v1 zraw) => zof_any typ v1 zraw w h
    have hO6 := fun w (h : RdL w w.heap.size v1 zraw) => rzof_any typ v1 zraw w h
    have hO7 := fun w (h : RdL w w.heap.size vx lx) => rzof_any ty vx lx w h
    generalize zof typ zraw = Z1 at hO5 hO6
    generalize zof ty lx = Z2 at *
    obtain ⟨r1, u1, ⟨mb1, mi1, ms1⟩, ⟨xb1, xi1, xs1⟩⟩ := Z1
    obtain ⟨r2, u2, ⟨mb2, mi2, ms2⟩, ⟨xb2, xi2, xs2⟩⟩ := Z2
    simp only [Zn.val] at hO5 hO6 hO7 ⊢
    have hCH := fun w => zcheck_any ⟨#[120]⟩ ty 0 null r2 u2 mb2 mi2 ms2 xb2 xi2 xs2 w
    rw [HCK.out] at hCH
    have hza := (Below.refl w3.heap.size w3).alloc (Nat.le_refl _) (.cells #[.int .i64 r2, .int .i64 u2, .bool mb2, .int .i64 mi2, .string ms2, .bool xb2, .int .i64 xi2, .string xs2] 25)
    have hz4 := VarZ.new w3 ⟨r2, u2, ⟨mb2, mi2, ms2⟩, ⟨xb2, xi2, xs2⟩⟩ 25
    have hx4 := hx3.step hza
    have hc4 := hc3.step hza
    have hr4 := hr3.step hza
    have HB4 := Lib.hid (bel_trans hB3 hza)
    have HV := Lib.hid (show ∀ w, Below (w3.alloc (.cells #[.int .i64 r2, .int .i64 u2, .bool mb2, .int .i64 mi2, .string ms2, .bool xb2, .int .i64 xi2, .string xs2] 25)).heap.size (w3.alloc (.cells #[.int .i64 r2, .int .i64 u2, .bool mb2, .int .i64 mi2, .string ms2, .bool xb2, .int .i64 xi2, .string xs2] 25)) w → Var4 w w1.heap.size (.string ⟨#[120]⟩) (.int .i64 ty) (.int .i64 0) (.bool null) ∧ VarZ w w3.heap.size ⟨r2, u2, ⟨mb2, mi2, ms2⟩, ⟨xb2, xi2, xs2⟩⟩ from fun w hb => ⟨hc4.step hb, hz4.step hb⟩)
    have H5 := fun w (hb : Below (w3.alloc (.cells #[.int .i64 r2, .int .i64 u2, .bool mb2, .int .i64 mi2, .string ms2, .bool xb2, .int .i64 xi2, .string xs2] 25)).heap.size (w3.alloc (.cells #[.int .i64 r2, .int .i64 u2, .bool mb2, .int .i64 mi2, .string ms2, .bool xb2, .int .i64 xi2, .string xs2] 25)) w) => Lib.hid (hO5 w (hr4.step hb))
    have H6 := fun w (hb : Below (w3.alloc (.cells #[.int .i64 r2, .int .i64 u2, .bool mb2, .int .i64 mi2, .string ms2, .bool xb2, .int .i64 xi2, .string xs2] 25)).heap.size (w3.alloc (.cells #[.int .i64 r2, .int .i64 u2, .bool mb2, .int .i64 mi2, .string ms2, .bool xb2, .int .i64 xi2, .string xs2] 25)) w) => Lib.hid (hO6 w (hr4.step hb))
    have H7 := fun w (hb : Below (w3.alloc (.cells #[.int .i64 r2, .int .i64 u2, .bool mb2, .int .i64 mi2, .string ms2, .bool xb2, .int .i64 xi2, .string xs2] 25)).heap.size (w3.alloc (.cells #[.int .i64 r2, .int .i64 u2, .bool mb2, .int .i64 mi2, .string ms2, .bool xb2, .int .i64 xi2, .string xs2] 25)) w) => Lib.hid (hO7 w (hx4.step hb))
    have H8 := fun w => Lib.hid (hCH w)
    have HA := fun w => Lib.hid (awake14_any w)
    clear hB3 hza hz4 hx4 hc4 hr4 hx3 hc3 hr3 hO5 hO6 hO7 hCH HCK
    go_wp2_with fail
    refine Go.Confl.wp_region_confl (by simp only [List.map_cons, List.map_nil]; rfl) (by kernel_rfl) (by kernel_rfl) ?_
    iterate 24
      first
      | (refine Go.Confl.chain_skip (Go.Confl.unwanted_is rfl rfl) ?_)
      | (first | apply Go.Confl.chain_is _ (Go.Confl.wanted_none rfl) | apply Go.Confl.chain_is _ (Go.Confl.wanted_is rfl rfl)
         · intro b w hr hb K hK
           simp [Go.Confl.readFacts, Go.Confl.tmpsOf, Go.Confl.writerOf, Go.Confl.Is, Op.operands, Call.operands, List.findIdx?, List.findIdx?.go] at hr
           obtain ⟨⟨k0, k1, k2, k3⟩, ⟨z0, z1, z2, z3, z4, z5, z6, z7, _⟩⟩ := HV.out _ hb
           simp only at z0 z1 z2 z3 z4 z5 z6 z7
           go_wp2_with (first
             | (go_at_call 14; (with_reducible refine (HA _).out.mono ?_); rintro e w' ⟨rfl, hb'⟩)
             | (go_at_call 10; (with_reducible refine (H5 _ hb).out.mono ?_); rintro e w' ⟨rfl, hb'⟩)
             | (go_at_call 15; (with_reducible refine (H6 _ hb).out.mono ?_); rintro e w' ⟨rfl, hb'⟩)
             | (go_at_call 15; (with_reducible refine (H7 _ hb).out.mono ?_); rintro e w' ⟨rfl, hb'⟩)
             | (go_at_call 16; (with_reducible refine (H8 _).out.mono ?_); rintro e w' ⟨rfl, hb'⟩))
           try (simp only [hr]; go_wp2)
           exact hK _ _ rfl (by first | exact Below.refl _ _ | assumption))
      simp only [List.nil_append, List.cons_append]
    intro us w hp hb
    simp [Go.Confl.allPosts, Go.Confl.Is] at hp
    simp only [Go.Confl.putsFrom, hp, Act.put, List.setIfInBounds_toArray, List.set_cons_zero, List.set_cons_succ]
    go_wp2
    go_ret
    exact RetB.mk rfl (bel_trans HB4.out hb)
theorem zoneOfs_holds : Rows.ZoneOfsSaid :=
  OpenClaim.holds_of_wide 4 Try.f4 rfl rfl rfl rfl rfl rfl rfl ⟨rfl, rfl, rfl, rfl, rfl⟩ rfl rfl rfl rfl rfl (by kernel_rfl) Try.func4 (by kernel_rfl)
    (of_decide_eq_true (by kernel_rfl)) (by unfold Func.isWrapper; first | (rw [if_pos (by decide +kernel)]; kernel_rfl) | (rw [if_neg (by decide +kernel)]; exact ⟨rfl, rfl⟩))
    (fun os started H enc _ => zoneOfs_lifted os started H enc)
end Go.Proofs.Ythohmngckpjlbaa
