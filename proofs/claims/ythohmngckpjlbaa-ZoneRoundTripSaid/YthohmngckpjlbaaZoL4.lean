/- Statements of layer 14: ZoneRoundTrip. -/
import Derived.Test.YthohmngckpjlbaaZoK
namespace Go.Proofs.Ythohmngckpjlbaa
open Go.RowKit Go.VB Go.VL Go.VS Go.ZN Go.CK Go.VarM Go.ChangeShapes Go.WideShapes Go.ChangeAt
open Go.ChangeMaps (open_string)
set_option linter.constructorNameAsVariable false
set_option maxRecDepth 100000 in
set_option maxHeartbeats 4000000 in
theorem zoneRoundTrip_lifted (os : Os) (started : os.Started) (H : Type) (enc : TypeId × Value → H) :
    ReturnsInHanded {} Try.checked os 9 .any (Rows.zoneRoundTripSpec.pre6 enc Try.prog Try.f9 Rows.zoneRoundTripRow.domain false) (Rows.zoneRoundTripSpec.post enc Try.prog Try.f9 false true false false) := by
  refine law_lifted (C := Try.checked) (tb := 4) started Try.own Try.laidOut (by kernel_rfl) Try.func9
    (ChangeSpec.witness6 (enc := enc) (C := Try.checked) false ⟨#[], #[.int .i64 0, .slice none 0 0, .string ⟨#[]⟩, .string ⟨#[]⟩], []⟩ 8 (by kernel_rfl) (by kernel_rfl) (by kernel_rfl) (by kernel_rfl))
    rfl rfl Try.underlying4 (by kernel_rfl) (fun ds h => ?_) (fun W base args ds p hval0 hA0 hsz0 hlt => ?_)
  · have h' : ds.length = Try.f9.params.toList.length := h
    rw [Try.params9] at h'
    match ds, h' with
    | [_, _, _, _], _ => rfl
  · have hval : ∀ (j : Nat) t v, Try.f9.params[j]? = some t → args[j]? = some v → Value.okWide Try.prog W .any base t v := hval0
    have hA : DataW.TrodAll enc Try.prog W 0 (fun _ => true) true Try.f9.params.toList args.toList ds p := hA0
    have hsz : (DataW.weightsEach Try.prog Try.f9.params.toList ds).all (· ≤ reachBytes) = true := hsz0
    rw [Try.params9] at hA hval hsz
    clear hA0 hval0 hsz0
    obtain ⟨v0, vs0, d0, ds0, p0, q0, hargs, rfl, rfl, h0, r0⟩ := trodAll_cons hA
    obtain ⟨v1, vs1, d1, ds1, p1, q1, rfl, rfl, rfl, h1, r1⟩ := trodAll_cons r0
    obtain ⟨v2, vs2, d2, ds2, p2, q2, rfl, rfl, rfl, h2, r2⟩ := trodAll_cons r1
    obtain ⟨v3, vs3, d3, ds3, p3, q3, rfl, rfl, rfl, h3, r3⟩ := trodAll_cons r2
    obtain ⟨rfl, rfl, rfl⟩ := trodAll_nil r3
    obtain rfl : args = #[v0, v1, v2, v3] := by cases args; simp_all
    obtain ⟨t, rfl, rfl, rfl, wt⟩ := open_int Try.underlying3 (hval 0 3 v0 rfl rfl) h0
    obtain ⟨zl, rl, wl, bl⟩ := open_rdI Try.underlying30 Try.underlying3 (by kernel_rfl) (hval 1 30 v1 rfl rfl) h1 hsz (j := 1) rfl rfl
    obtain ⟨before, rfl, rfl, rfl, _⟩ := open_string Try.underlying9 (hval 2 9 v2 rfl rfl) h2
    have zbefore : before.size ≤ 140737488351232 := by have h := sized_string hsz (j := 2) (t := 9) rfl rfl; rw [size_list] at h; exact h
    obtain ⟨behind, rfl, rfl, rfl, _⟩ := open_string Try.underlying9 (hval 3 9 v3 rfl rfl) h3
    have zbehind : behind.size ≤ 140737488351232 := by have h := sized_string hsz (j := 3) (t := 9) rfl rfl; rw [size_list] at h; exact h
    change Calls Try.prog 9 #[.int .i64 t, v1, .string before, .string behind] W (RetB (.bool true) W)
    clear bl
    have HCOL := fun w => Lib.hid (column_any t true w wt)
    have hty := pick_ty t
    have HT := Lib.hid (okT_pick t)
    generalize 1 + pickN t 5 = ty at *
    have HKV := fun w r => Lib.hid (kvals_any w v1 zl ⟨#[120]⟩ ty 0 true r wl hty)
    clear wt
    go_enter Try.func9, Try.ntmps9
    go_wp2_with fail
    (with_reducible refine (HCOL _).out.mono ?_); rintro e w1 ⟨rfl, hb1⟩
    have hba := (Below.refl w1.heap.size w1).alloc (Nat.le_refl _) (.cells #[.string ⟨#[120]⟩, .int .i64 ty, .int .i64 0, .bool true] 32)
    have hc1 := Var4.new w1 (.string ⟨#[120]⟩) (.int .i64 ty) (.int .i64 0) (.bool true) 32
    have hl1 := (rl.step hb1).step hba
    have HB1 := Lib.hid (bel_trans hb1 hba)
    clear hb1 hba rl wl HCOL hty
    go_wp2_with fail
    generalize hg : w1.heap.size = g at *
    generalize w1.alloc (.cells #[.string ⟨#[120]⟩, .int .i64 ty, .int .i64 0, .bool true] 32) = X at *
    clear hg
    have HV := Lib.hid (show ∀ w, Below X.heap.size X w → Var4 w g (.string ⟨#[120]⟩) (.int .i64 ty) (.int .i64 0) (.bool true) from fun w hb => hc1.step hb)
    have HK := fun w (hb : Below X.heap.size X w) => Lib.hid (HKV w (hl1.step hb)).out
    clear HKV hl1 hc1
    refine Go.ConflA.wp_region_tail_at 7 (by simp only [List.take_succ_cons, List.take_zero, List.map_cons, List.map_nil]; rfl) (by kernel_rfl) (by kernel_rfl) (by kernel_rfl) (by kernel_rfl) (by kernel_rfl) (Nat.zero_lt_succ _) (by kernel_rfl) ?_
    simp only [List.take_succ_cons, List.take_zero, List.drop_succ_cons, List.drop_zero]
    iterate 4
      first
      | (refine Go.ConflA.chainA_skip (Go.Confl.unwanted_is rfl rfl) ?_)
      | (first | apply Go.ConflA.chainA_is _ (Go.Confl.wanted_none rfl) | apply Go.ConflA.chainA_is _ (Go.Confl.wanted_is rfl rfl)
         · intro b w hr hb K hK
           simp [Go.Confl.readFacts, Go.Confl.tmpsOf, Go.Confl.writerOf, Go.Confl.Is, Op.operands, List.findIdx?, List.findIdx?.go] at hr
           obtain ⟨k0, k1, k2, k3⟩ := HV.out _ hb
           go_wp2_with fail
           try (simp only [hr]; go_wp2)
           exact hK _ _ rfl (by first | exact Below.refl _ _ | assumption))
      simp only [List.nil_append, List.cons_append]
    apply Go.ConflA.chainA_any (KvQ ty true) (KvQ.stable ty true) (Go.Confl.wanted_none rfl)
    · intro f w hr hb K hK
      simp [Go.Confl.readFacts, Go.Confl.tmpsOf, Go.Confl.writerOf, Go.Confl.Is, Op.operands, Call.operands, List.findIdx?, List.findIdx?.go] at hr
      go_wp2_with (go_at_call 13; (with_reducible refine (HK _ hb).out.mono ?_); rintro e w' ⟨vx, lx, rfl, hown, hlx, hcx, hbx, hb'⟩)
      exact hK _ _ ⟨lx, hown.read, hlx, hcx, hbx⟩ hb'
    simp only [List.nil_append, List.cons_append]
    apply Go.ConflA.chainA_any (ZfQ ty true) (ZfQ.stable ty true) (Go.Confl.wanted_none rfl)
    · intro f w hr hb K hK
      simp [Go.Confl.readFacts, Go.Confl.tmpsOf, Go.Confl.writerOf, Go.Confl.Is, Op.operands, Call.operands, List.findIdx?, List.findIdx?.go] at hr
      obtain ⟨hr1, lx, hx, hlx⟩ := hr
      go_wp2_with (go_at_call 10; (with_reducible refine (zof_any ty _ lx _ hx).mono ?_); rintro e w' ⟨rfl, hb'⟩)
      exact hK _ _ ⟨lx, hlx, rfl⟩ hb'
    simp only [List.nil_append, List.cons_append]
    apply Go.ConflA.chainA_any (NewZ X zn0) (NewZ.stable X zn0) (Go.Confl.wanted_none rfl)
    · intro f w hr hb K hK
      go_wp2_with fail
      exact hK _ _ ⟨_, rfl, hb.size, VarZ.new w zn0 25⟩ ((Below.refl _ _).alloc (Nat.le_refl _) _)
    simp only [List.nil_append, List.cons_append]
    intro us w hp hdist hb
    simp [Go.Confl.allPosts, Go.Confl.Is] at hp
    simp only [Go.Confl.putsFrom, Act.put, List.setIfInBounds_toArray, List.set_cons_zero, List.set_cons_succ]
    change wpList _ _ _ _ _ _
    obtain ⟨e0, e1, e2, e3, -, ⟨lx, hgood, e5⟩, ⟨p, e6, lp, Vp⟩⟩ := hp
    have hZ := zof_good HT.out hgood
    generalize zof ty lx = Z at hZ e5
    have hget := getZ_put before.data.toList behind.data.toList hZ
    have hlen := putZ_len hZ
    obtain ⟨r, u, ⟨mb, mi, ms⟩, ⟨xb, xi, xs⟩⟩ := Z
    simp only [Zn.val] at e5
    simp only [e0, e1, e2, e3, e5, e6]
    generalize us 4 = q4
    clear e0 e1 e2 e3 e5 e6 hdist hgood
    have HPZ := fun w => Lib.hid (zput_any r u mb mi ms xb xi xs w (wf_bd (by have h0 := hZ.r0; have h1 := hZ.r1; simp only at h0 h1; omega)) (wf_bd (by have h0 := hZ.u0; have h1 := hZ.u1; simp only at h0 h1; omega)) (wf_bd hZ.mi) (wf_bd hZ.xi) (by have := hZ.ms; simp only at this; omega) (by have := hZ.xs; simp only at this; omega))
    generalize putZ ⟨r, u, ⟨mb, mi, ms⟩, ⟨xb, xi, xs⟩⟩ = P at *
    have hS : str (before.data.toList ++ (P ++ behind.data.toList)) = before ++ str P ++ behind := by
      rw [← str_append, ← str_append, str_of, str_of]
      apply ByteArray.ext; simp
    have a1 : ∀ w, (Op.stringOp .add before (str P)).run Try.prog w = .ok (.string (before ++ str P)) w := fun w => run_string_add_sum w _ _ (by rw [str_size]; omega)
    have a2 : ∀ w, (Op.stringOp .add (before ++ str P) behind).run Try.prog w = .ok (.string (before ++ str P ++ behind)) w := fun w => run_string_add_sum w _ _ (by rw [ByteArray.size_append, str_size]; omega)
    have hl1 : before.data.toList.length = before.size := size_list before
    rw [hS, hl1] at hget
    have HG := fun w => Lib.hid (zget_any (before ++ str P ++ behind) (before.size : Int) w (by rw [ByteArray.size_append, ByteArray.size_append, str_size]; omega))
    rw [hget] at HG
    simp only [gZv, Zn.val] at HG
    have hK : ∃ K : Int, K = (before.size : Int) + P.length := ⟨_, rfl⟩
    obtain ⟨K, hK⟩ := hK
    rw [← hK] at HG
    have hw : wrap64 ((before.size : Int) + ((str P).size : Int)) = K := by rw [str_size]; unfold wrap64; omega
    have HW := Lib.hid hw
    clear hget hlen hS hl1 hK hw zbefore zbehind
    generalize before ++ str P ++ behind = S3 at *
    generalize before ++ str P = S2 at *
    generalize str P = T at *
    have hBp := put8_below (z := ⟨r, u, ⟨mb, mi, ms⟩, ⟨xb, xi, xs⟩⟩) hb lp
    have hVp := Vp.put ⟨r, u, ⟨mb, mi, ms⟩, ⟨xb, xi, xs⟩⟩
    change Below X.heap.size X ((((((((w.setCell ⟨p, 0, none⟩ (.int .i64 r)).setCell ⟨p, 1, none⟩ (.int .i64 u)).setCell ⟨p, 2, none⟩ (.bool mb)).setCell ⟨p, 3, none⟩ (.int .i64 mi)).setCell ⟨p, 4, none⟩ (.string ms)).setCell ⟨p, 5, none⟩ (.bool xb)).setCell ⟨p, 6, none⟩ (.int .i64 xi)).setCell ⟨p, 7, none⟩ (.string xs)) at hBp
    change VarZ ((((((((w.setCell ⟨p, 0, none⟩ (.int .i64 r)).setCell ⟨p, 1, none⟩ (.int .i64 u)).setCell ⟨p, 2, none⟩ (.bool mb)).setCell ⟨p, 3, none⟩ (.int .i64 mi)).setCell ⟨p, 4, none⟩ (.string ms)).setCell ⟨p, 5, none⟩ (.bool xb)).setCell ⟨p, 6, none⟩ (.int .i64 xi)).setCell ⟨p, 7, none⟩ (.string xs)) p ⟨r, u, ⟨mb, mi, ms⟩, ⟨xb, xi, xs⟩⟩ at hVp
    have HBp := Lib.hid hBp
    have HVp := Lib.hid hVp
    clear hBp hVp
    obtain ⟨f0, f1, f2, f3, f4, f5, f6, f7⟩ := Vp.frz
    obtain ⟨r0, r1, r2, r3, r4, r5, r6, r7, _⟩ := Vp
    go_upto_region 3 with fail
    clear f0 f1 f2 f3 f4 f5 f6 f7 r0 r1 r2 r3 r4 r5 r6 r7
    generalize ((((((((w.setCell ⟨p, 0, none⟩ (.int .i64 r)).setCell ⟨p, 1, none⟩ (.int .i64 u)).setCell ⟨p, 2, none⟩ (.bool mb)).setCell ⟨p, 3, none⟩ (.int .i64 mi)).setCell ⟨p, 4, none⟩ (.string ms)).setCell ⟨p, 5, none⟩ (.bool xb)).setCell ⟨p, 6, none⟩ (.int .i64 xi)).setCell ⟨p, 7, none⟩ (.string xs)) = Y at *
    have hBY := bel_trans HB1.out HBp.out
    have hVY := HVp.out
    obtain ⟨z0, z1, z2, z3, z4, z5, z6, z7, _⟩ := HVp.out
    simp only at z0 z1 z2 z3 z4 z5 z6 z7
    clear HV HK HBp HVp hb
    go_wp2_with fail
    (with_reducible refine (HPZ _).out.mono ?_); rintro e w3 ⟨rfl, hb3⟩
    have hV3 := hVY.step hb3
    have hB3 := bel_trans hBY hb3
    clear hVY hBY hb3 z0 z1 z2 z3 z4 z5 z6 z7 HPZ
    go_wp2_with fail
    (with_reducible refine (HG _).out.mono ?_); rintro e w4 ⟨rfl, hb4⟩
    have hza := (Below.refl w4.heap.size w4).alloc (Nat.le_refl _) (.cells #[.int .i64 r, .int .i64 u, .bool mb, .int .i64 mi, .string ms, .bool xb, .int .i64 xi, .string xs] 25)
    have hV5 := (hV3.step hb4).step hza
    have hY5 := VarZ.new w4 ⟨r, u, ⟨mb, mi, ms⟩, ⟨xb, xi, xs⟩⟩ 25
    have hB5 := bel_trans (bel_trans hB3 hb4) hza
    clear hV3 hB3 hb4 hza HG
    go_wp2_with fail
    (with_reducible refine (awake14_any _).mono ?_); rintro e w6 ⟨rfl, hb6⟩
    have hB6 := bel_trans hB5 hb6
    obtain ⟨z0, z1, z2, z3, z4, z5, z6, z7, _⟩ := hV5.step hb6
    obtain ⟨y0, y1, y2, y3, y4, y5, y6, y7, _⟩ := hY5.step hb6
    simp only at z0 z1 z2 z3 z4 z5 z6 z7 y0 y1 y2 y3 y4 y5 y6 y7
    have hw := HW.out
    clear hV5 hY5 hB5 hb6
    go_wp2
    go_ret
    exact RetB.mk rfl hB6
theorem zoneRoundTrip_holds : Rows.ZoneRoundTripSaid :=
  OpenClaim.holds_of_wide 9 Try.f9 rfl rfl rfl rfl rfl rfl rfl ⟨rfl, rfl, rfl, rfl, rfl⟩ rfl rfl rfl rfl rfl (by kernel_rfl) Try.func9 (by kernel_rfl)
    (of_decide_eq_true (by kernel_rfl)) (by unfold Func.isWrapper; first | (rw [if_pos (by decide +kernel)]; kernel_rfl) | (rw [if_neg (by decide +kernel)]; exact ⟨rfl, rfl⟩))
    (fun os started H enc _ => zoneRoundTrip_lifted os started H enc)
end Go.Proofs.Ythohmngckpjlbaa
