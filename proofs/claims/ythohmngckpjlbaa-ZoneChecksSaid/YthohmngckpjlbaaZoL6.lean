/- Statements of layer 14: ZoneChecks. -/
import Derived.Test.YthohmngckpjlbaaZoK
import Derived.Test.YthohmngckpjlbaaZoW6
import Derived.Test.YthohmngckpjlbaaKvOne
import Derived.Deep.CutRange
namespace Go.Proofs.Ythohmngckpjlbaa
open Go.RowKit Go.VB Go.VL Go.VS Go.ZN Go.CK Go.VarM Go.ChangeShapes Go.WideShapes Go.ChangeAt
open Go.ChangeMaps (open_string)
set_option linter.constructorNameAsVariable false
theorem quo_wf (v n : Int) (hn : 2 ≤ n) (hv : -9223372036854775808 ≤ v ∧ v ≤ 9223372036854775807) : ∃ a, wrap64 (v.tdiv n) = a ∧ IntKind.i64.wrap (v.tdiv n) = a ∧ (Lit.int .i64 a).wf = true := by
  have hb : -9223372036854775808 ≤ v.tdiv n ∧ v.tdiv n ≤ 9223372036854775807 := by
    have h1 : (v.tdiv n).natAbs = v.natAbs / n.natAbs := Int.natAbs_tdiv v n
    have h2 : v.natAbs / n.natAbs ≤ v.natAbs / 2 := Nat.div_le_div_left (by omega) (by decide)
    generalize v.natAbs / n.natAbs = q at *
    generalize v.tdiv n = d at *
    omega
  generalize v.tdiv n = a at *
  exact ⟨a, by unfold wrap64; omega, IntWalk.i64_in _ ⟨by omega, by omega⟩, WalkArith.wf_i64 hb⟩
theorem rdI_lit3 (w : World) (a b c : Int) (e : TypeId) : RdI .i64 (w.alloc (.cells #[.int .i64 a, .int .i64 b, .int .i64 c] e)) (w.alloc (.cells #[.int .i64 a, .int .i64 b, .int .i64 c] e)).heap.size (.slice (some ⟨w.heap.size, 0, none⟩) 3 3) [a, b, c] := by
  refine ⟨some ⟨w.heap.size, 0, none⟩, 3, rfl, Nat.le_refl 3, (by show 3 ≤ maxLen; unfold maxLen; omega), fun i hi => ⟨_, rfl, by simp, ?_⟩⟩
  match i, hi with
  | 0, _ => simp [Addr.add]
  | 1, _ => simp [Addr.add]
  | 2, _ => simp [Addr.add]
set_option maxRecDepth 100000 in
set_option maxHeartbeats 4000000 in
theorem zoneChecks_lifted (os : Os) (started : os.Started) (H : Type) (enc : TypeId × Value → H) :
    ReturnsInHanded {} Try.checked os 7 .any (Rows.zoneChecksSpec.pre6 enc Try.prog Try.f7 Rows.zoneChecksRow.domain false) (Rows.zoneChecksSpec.post enc Try.prog Try.f7 false true false false) := by
  refine law_lifted (C := Try.checked) (tb := 4) started Try.own Try.laidOut (by kernel_rfl) Try.func7
    (ChangeSpec.witness6 (enc := enc) (C := Try.checked) false ⟨#[], #[.agg #[.string ⟨#[]⟩, .int .i64 0, .int .i64 0, .bool false], .agg #[.int .i64 0, .int .i64 0, .bool false, .int .i64 0, .string ⟨#[]⟩, .bool false, .int .i64 0, .string ⟨#[]⟩], .int .i64 0, .bool false, .slice none 0 0, .int .i64 0, .int .i64 0], []⟩ 8 (by kernel_rfl) (by kernel_rfl) (by kernel_rfl) (by kernel_rfl))
    rfl rfl Try.underlying4 (by kernel_rfl) (fun ds h => ?_) (fun W base args ds p hval0 hA0 hsz0 hlt => ?_)
  · have h' : ds.length = Try.f7.params.toList.length := h
    rw [Try.params7] at h'
    match ds, h' with
    | [_, _, _, _, _, _, _], _ => rfl
  · have hval : ∀ (j : Nat) t v, Try.f7.params[j]? = some t → args[j]? = some v → Value.okWide Try.prog W .any base t v := hval0
    have hA : DataW.TrodAll enc Try.prog W 0 (fun _ => true) true Try.f7.params.toList args.toList ds p := hA0
    have hsz : (DataW.weightsEach Try.prog Try.f7.params.toList ds).all (· ≤ reachBytes) = true := hsz0
    rw [Try.params7] at hA hval hsz
    clear hA0 hval0 hsz0
    obtain ⟨v0, vs0, d0, ds0, p0, q0, hargs, rfl, rfl, h0, r0⟩ := trodAll_cons hA
    obtain ⟨v1, vs1, d1, ds1, p1, q1, rfl, rfl, rfl, h1, r1⟩ := trodAll_cons r0
    obtain ⟨v2, vs2, d2, ds2, p2, q2, rfl, rfl, rfl, h2, r2⟩ := trodAll_cons r1
    obtain ⟨v3, vs3, d3, ds3, p3, q3, rfl, rfl, rfl, h3, r3⟩ := trodAll_cons r2
    obtain ⟨v4, vs4, d4, ds4, p4, q4, rfl, rfl, rfl, h4, r4⟩ := trodAll_cons r3
    obtain ⟨v5, vs5, d5, ds5, p5, q5, rfl, rfl, rfl, h5, r5⟩ := trodAll_cons r4
    obtain ⟨v6, vs6, d6, ds6, p6, q6, rfl, rfl, rfl, h6, r6⟩ := trodAll_cons r5
    obtain ⟨rfl, rfl, rfl⟩ := trodAll_nil r6
    obtain rfl : args = #[v0, v1, v2, v3, v4, v5, v6] := by cases args; simp_all
    obtain ⟨cnm, cty, csc, cnu, rfl, wcty, wcsc, zcnm⟩ := open_col (hval 0 32 v0 rfl rfl) h0
    obtain ⟨zr, zu, zmb, zmn, zms, zxb, zxn, zxs, rfl, wzr, wzu, wzmn, zzms, wzxn, zzxs⟩ := open_zone (hval 1 25 v1 rfl rfl) h1 hsz (j := 1) rfl rfl
    obtain ⟨t, rfl, rfl, rfl, wt⟩ := open_int Try.underlying3 (hval 2 3 v2 rfl rfl) h2
    obtain ⟨null, rfl, rfl, rfl⟩ := open_bool Try.underlying4 (hval 3 4 v3 rfl rfl) h3
    obtain ⟨zl, rl, wl, bl⟩ := open_rdI Try.underlying30 Try.underlying3 (by kernel_rfl) (hval 4 30 v4 rfl rfl) h4 hsz (j := 4) rfl rfl
    obtain ⟨how, rfl, rfl, rfl, whow⟩ := open_int Try.underlying3 (hval 5 3 v5 rfl rfl) h5
    obtain ⟨v, rfl, rfl, rfl, wv⟩ := open_int Try.underlying3 (hval 6 3 v6 rfl rfl) h6
    change Calls Try.prog 7 #[(.agg #[.string cnm, .int .i64 cty, .int .i64 csc, .bool cnu]), (.agg #[.int .i64 zr, .int .i64 zu, .bool zmb, .int .i64 zmn, .string zms, .bool zxb, .int .i64 zxn, .string zxs]), .int .i64 t, .bool null, v4, .int .i64 how, .int .i64 v] W (RetB (.bool true) W)
    clear bl
    have HCOL := fun w => Lib.hid (column_any t null w wt)
    have hty := pick_ty t
    have HTY := Lib.hid hty
    have HT := Lib.hid (okT_pick t)
    generalize 1 + pickN t 5 = ty at *
    have HKV := fun w r => Lib.hid (kvals_any w v4 zl ⟨#[120]⟩ ty 0 null r wl hty)
    have hb0 := ((Below.refl W.heap.size W).alloc (Nat.le_refl _) (.cells #[.string cnm, .int .i64 cty, .int .i64 csc, .bool cnu] 32)).alloc (by simp) (.cells #[.int .i64 zr, .int .i64 zu, .bool zmb, .int .i64 zmn, .string zms, .bool zxb, .int .i64 zxn, .string zxs] 25)
    have hc0 := (Var4.new W (.string cnm) (.int .i64 cty) (.int .i64 csc) (.bool cnu) 32).step ((Below.refl _ _).alloc (Nat.le_refl _) (.cells #[.int .i64 zr, .int .i64 zu, .bool zmb, .int .i64 zmn, .string zms, .bool zxb, .int .i64 zxn, .string zxs] 25))
    have hz0 := VarZ.new (W.alloc (.cells #[.string cnm, .int .i64 cty, .int .i64 csc, .bool cnu] 32)) ⟨zr, zu, ⟨zmb, zmn, zms⟩, ⟨zxb, zxn, zxs⟩⟩ 25
    rw [show (W.alloc (.cells #[.string cnm, .int .i64 cty, .int .i64 csc, .bool cnu] 32)).heap.size = W.heap.size + 1 from by simp] at hz0
    have hl0 := rl.step hb0
    have HCK1 := fun w => Lib.hid (zcheck_any cnm cty csc cnu zr zu zmb zmn zms zxb zxn zxs w)
    have HCK2 := fun w => Lib.hid (rcheckz_any cnm cty csc cnu zr zu zmb zmn zms zxb zxn zxs w)
    have HCK5 := fun w => Lib.hid (zcheck_any ⟨#[120]⟩ ty 0 null zr zu zmb zmn zms zxb zxn zxs w)
    have HCK6 := fun w => Lib.hid (rcheckz_any ⟨#[120]⟩ ty 0 null zr zu zmb zmn zms zxb zxn zxs w)
    generalize zchk cty cnu ⟨zr, zu, ⟨zmb, zmn, zms⟩, ⟨zxb, zxn, zxs⟩⟩ = B1 at HCK1 HCK2
    generalize zchk ty null ⟨zr, zu, ⟨zmb, zmn, zms⟩, ⟨zxb, zxn, zxs⟩⟩ = B3 at HCK5 HCK6
    have HPK := fun w => Lib.hid (pick_at how 6 w whow (by omega) (by omega))
    have hq := pickN_bd how (n := 6) (by omega)
    generalize pickN how 6 = q at *
    have HWV := Lib.hid wv
    clear wt rl whow wv wzr wzu wzmn wzxn zzms zzxs wcty wcsc zcnm
    go_enter Try.func7, Try.ntmps7
    go_wp2_with fail
    (with_reducible refine (HCOL _).out.mono ?_); rintro e w1 ⟨rfl, hb1⟩
    have hba := (Below.refl w1.heap.size w1).alloc (Nat.le_refl _) (.cells #[.string ⟨#[120]⟩, .int .i64 ty, .int .i64 0, .bool null] 32)
    have hc1 := Var4.new w1 (.string ⟨#[120]⟩) (.int .i64 ty) (.int .i64 0) (.bool null) 32
    have hl1 := (hl0.step hb1).step hba
    have HZ1 := Lib.hid ((hz0.step hb1).step hba)
    have HC1 := Lib.hid ((hc0.step hb1).step hba)
    have HB1 := Lib.hid (bel_trans (bel_trans hb0 hb1) hba)
    clear hb0 hb1 hba hl0 hz0 hc0 wl HCOL hty
    go_wp2_with fail
    generalize hg : w1.heap.size = g at *
    generalize w1.alloc (.cells #[.string ⟨#[120]⟩, .int .i64 ty, .int .i64 0, .bool null] 32) = X at *
    clear hg
    have HV := Lib.hid (show ∀ w, Below X.heap.size X w → Var4 w g (.string ⟨#[120]⟩) (.int .i64 ty) (.int .i64 0) (.bool null) from fun w hb => hc1.step hb)
    have HK := fun w (hb : Below X.heap.size X w) => Lib.hid (HKV w (hl1.step hb)).out
    clear HKV hl1 hc1
    refine Go.ConflA.wp_region_tail_at 7 (by simp only [List.take_succ_cons, List.take_zero, List.map_cons, List.map_nil]; rfl) (by kernel_rfl) (by kernel_rfl) (by kernel_rfl) (by kernel_rfl) (by kernel_rfl) (Nat.zero_lt_succ _) (by kernel_rfl) ?_
    simp only [List.take_succ_cons, List.take_zero, List.drop_succ_cons, List.drop_zero]
    iterate 4
      first
      | (refine Go.ConflA.chainA_skip (Go.Confl.unwanted_is rfl rfl) ?_)
      | (first | apply Go.ConflA.chainA_is _ (Go.Confl.wanted_none rfl) | apply Go.ConflA.chainA_is _ (Go.Confl.wanted_is rfl rfl)
         · intro b w hr hb K hK
           simp [Go.Confl.readFacts, Go.Confl.tmpsOf, Go.Confl.writerOf, Go.Confl.Is, Op.operands, List.findIdx?, List.findIdx?.go] at hr
           obtain ⟨k0, k1, k2, k3⟩ := HV.out _ hb
           go_wp2_with fail
           try (simp only [hr]; go_wp2)
           exact hK _ _ rfl (by first | exact Below.refl _ _ | assumption))
      simp only [List.nil_append, List.cons_append]
    apply Go.ConflA.chainA_any (KvQ ty null) (KvQ.stable ty null) (Go.Confl.wanted_none rfl)
    · intro f w hr hb K hK
      simp [Go.Confl.readFacts, Go.Confl.tmpsOf, Go.Confl.writerOf, Go.Confl.Is, Op.operands, Call.operands, List.findIdx?, List.findIdx?.go] at hr
      go_wp2_with (go_at_call 13; (with_reducible refine (HK _ hb).out.mono ?_); rintro e w' ⟨vx, lx, rfl, hown, hlx, hcx, hbx, hb'⟩)
      exact hK _ _ ⟨lx, hown.read, hlx, hcx, hbx⟩ hb'
    simp only [List.nil_append, List.cons_append]
    apply Go.ConflA.chainA_any (ZfQ ty null) (ZfQ.stable ty null) (Go.Confl.wanted_none rfl)
    · intro f w hr hb K hK
      simp [Go.Confl.readFacts, Go.Confl.tmpsOf, Go.Confl.writerOf, Go.Confl.Is, Op.operands, Call.operands, List.findIdx?, List.findIdx?.go] at hr
      obtain ⟨hr1, lx, hx, hlx⟩ := hr
      go_wp2_with (go_at_call 15; (with_reducible refine (rzof_any ty _ lx _ hx).mono ?_); rintro e w' ⟨rfl, hb'⟩)
      exact hK _ _ ⟨lx, hlx, rfl⟩ hb'
    simp only [List.nil_append, List.cons_append]
    apply Go.ConflA.chainA_any (NewZ X zn0) (NewZ.stable X zn0) (Go.Confl.wanted_none rfl)
    · intro f w hr hb K hK
      go_wp2_with fail
      exact hK _ _ ⟨_, rfl, hb.size, VarZ.new w zn0 25⟩ ((Below.refl _ _).alloc (Nat.le_refl _) _)
    simp only [List.nil_append, List.cons_append]
    intro us w hp hdist hb
    simp [Go.Confl.allPosts, Go.Confl.Is] at hp
    simp only [Go.Confl.putsFrom, Act.put, List.setIfInBounds_toArray, List.set_cons_zero, List.set_cons_succ]
    change wpList _ _ _ _ _ _
    obtain ⟨e0, e1, e2, e3, -, ⟨lx, hgood, e5⟩, ⟨p, e6, lp, Vp⟩⟩ := hp
    have hZ := zof_good HT.out hgood
    generalize zof ty lx = Z at hZ e5
    obtain ⟨r, u, ⟨mb, mi, ms⟩, ⟨xb, xi, xs⟩⟩ := Z
    simp only [Zn.val] at e5
    simp only [e0, e1, e2, e3, e5, e6]
    generalize us 4 = q4
    clear e0 e1 e2 e3 e5 e6 hdist hgood
    have hBp := put8_below (z := ⟨r, u, ⟨mb, mi, ms⟩, ⟨xb, xi, xs⟩⟩) hb lp
    have hVp := Vp.put ⟨r, u, ⟨mb, mi, ms⟩, ⟨xb, xi, xs⟩⟩
    change Below X.heap.size X ((((((((w.setCell ⟨p, 0, none⟩ (.int .i64 r)).setCell ⟨p, 1, none⟩ (.int .i64 u)).setCell ⟨p, 2, none⟩ (.bool mb)).setCell ⟨p, 3, none⟩ (.int .i64 mi)).setCell ⟨p, 4, none⟩ (.string ms)).setCell ⟨p, 5, none⟩ (.bool xb)).setCell ⟨p, 6, none⟩ (.int .i64 xi)).setCell ⟨p, 7, none⟩ (.string xs)) at hBp
    change VarZ ((((((((w.setCell ⟨p, 0, none⟩ (.int .i64 r)).setCell ⟨p, 1, none⟩ (.int .i64 u)).setCell ⟨p, 2, none⟩ (.bool mb)).setCell ⟨p, 3, none⟩ (.int .i64 mi)).setCell ⟨p, 4, none⟩ (.string ms)).setCell ⟨p, 5, none⟩ (.bool xb)).setCell ⟨p, 6, none⟩ (.int .i64 xi)).setCell ⟨p, 7, none⟩ (.string xs)) p ⟨r, u, ⟨mb, mi, ms⟩, ⟨xb, xi, xs⟩⟩ at hVp
    have HBp := Lib.hid hBp
    have HVp := Lib.hid hVp
    clear hBp hVp
    obtain ⟨f0, f1, f2, f3, f4, f5, f6, f7⟩ := Vp.frz
    obtain ⟨r0, r1, r2, r3, r4, r5, r6, r7, _⟩ := Vp
    go_upto_region 3 with fail
    clear f0 f1 f2 f3 f4 f5 f6 f7 r0 r1 r2 r3 r4 r5 r6 r7 hb
    generalize ((((((((w.setCell ⟨p, 0, none⟩ (.int .i64 r)).setCell ⟨p, 1, none⟩ (.int .i64 u)).setCell ⟨p, 2, none⟩ (.bool mb)).setCell ⟨p, 3, none⟩ (.int .i64 mi)).setCell ⟨p, 4, none⟩ (.string ms)).setCell ⟨p, 5, none⟩ (.bool xb)).setCell ⟨p, 6, none⟩ (.int .i64 xi)).setCell ⟨p, 7, none⟩ (.string xs)) = Y at *
    clear HK
    go_wp2_with fail
    (with_reducible refine (HPK _).out.mono ?_); rintro e w' ⟨rfl, rfl⟩
    clear HPK
    go_upto_if 28 with fail
    have hY := HVp.out
    have hBY := HBp.out
    have hzb := HZ1.out.step HBp.out
    have hcb := HC1.out.step HBp.out
    obtain ⟨f0, f1, f2, f3, f4, f5, f6, f7⟩ := hY.frz
    obtain ⟨z0, z1, z2, z3, z4, z5, z6, z7, _⟩ := id hY
    simp only at z0 z1 z2 z3 z4 z5 z6 z7
    have hq6 : q = 0 ∨ q = 1 ∨ q = 2 ∨ q = 3 ∨ q = 4 ∨ q = 5 := by omega
    clear hq
    rcases hq6 with rfl | rfl | rfl | rfl | rfl | rfl
    · have HPV := fun w => Lib.hid (pick_at v 5 w HWV.out (by omega) (by omega))
      have hq := pickN_bd v (n := 5) (by omega)
      generalize pickN v 5 = k at *
      have hw : wrap64 (k - 1) = k - 1 := by unfold wrap64; omega
      clear hq
      go_wp2_with fail
      (with_reducible refine (HPV _).out.mono ?_); rintro e w' ⟨rfl, rfl⟩
      go_wp2_with fail
      have hcut : ∃ Z' : Zn, VarZ (Y.setCell ⟨p, 0, none⟩ (.int .i64 (k - 1))) p Z' ∧ Below X.heap.size X (Y.setCell ⟨p, 0, none⟩ (.int .i64 (k - 1))) := ⟨_, hY.set0 (k - 1), hBY.setCell (p := ⟨p, 0, none⟩) lp (.int .i64 (k - 1))⟩
      clear z0 z1 z2 z3 z4 z5 z6 z7 f0 f1 f2 f3 f4 f5 f6 f7 hY hBY hzb hcb HBp HVp
      generalize Y.setCell ⟨p, 0, none⟩ (.int .i64 (k - 1)) = wc at *
      obtain ⟨Z', hyc, hbc⟩ := hcut
      obtain ⟨yr, yu, ⟨ymb, ymi, yms⟩, ⟨yxb, yxi, yxs⟩⟩ := Z'
      have HCK3 := fun w => Lib.hid (zcheck_any ⟨#[120]⟩ ty 0 null yr yu ymb ymi yms yxb yxi yxs w)
      have HCK4 := fun w => Lib.hid (rcheckz_any ⟨#[120]⟩ ty 0 null yr yu ymb ymi yms yxb yxi yxs w)
      generalize zchk ty null ⟨yr, yu, ⟨ymb, ymi, yms⟩, ⟨yxb, yxi, yxs⟩⟩ = B2 at HCK3 HCK4
      have HVU := fun w' (hb : Below wc.heap.size wc w') => Lib.hid (And.intro (HC1.out.step (bel_trans hbc hb)) (And.intro (HZ1.out.step (bel_trans hbc hb)) (And.intro (HV.out _ (bel_trans hbc hb)) (hyc.step hb))))
      have HBU := Lib.hid (bel_trans HB1.out hbc)
      have HA := fun w => Lib.hid (awake14_any w)
      clear hyc hbc HC1 HZ1 HV HB1 HPV HTY HT HWV
      refine Go.Confl.wp_region_confl (by simp only [List.map_cons, List.map_nil]; rfl) (by kernel_rfl) (by kernel_rfl) ?_
      iterate 10
        first
        | (refine Go.Confl.chain_skip (Go.Confl.unwanted_is rfl rfl) ?_)
        | (first | apply Go.Confl.chain_is _ (Go.Confl.wanted_none rfl) | apply Go.Confl.chain_is _ (Go.Confl.wanted_is rfl rfl)
           · intro b w hr hb K hK
             simp [Go.Confl.readFacts, Go.Confl.tmpsOf, Go.Confl.writerOf, Go.Confl.Is, Op.operands, Call.operands, List.findIdx?, List.findIdx?.go] at hr
             obtain ⟨⟨k0, k1, k2, k3⟩, ⟨z0, z1, z2, z3, z4, z5, z6, z7, _⟩, -⟩ := (HVU _ hb).out
             simp only at z0 z1 z2 z3 z4 z5 z6 z7
             go_wp2_with (first
               | (go_at_call 14; (with_reducible refine (HA _).out.mono ?_); rintro e w' ⟨rfl, hb'⟩)
               | (go_at_call 16; (with_reducible refine (HCK1 _).out.mono ?_); rintro e w' ⟨rfl, hb'⟩)
               | (go_at_call 21; (with_reducible refine (HCK2 _).out.mono ?_); rintro e w' ⟨rfl, hb'⟩))
             try (simp only [hr]; go_wp2)
             exact hK _ _ rfl (by first | exact Below.refl _ _ | assumption))
        simp only [List.nil_append, List.cons_append]
      iterate 9
        first
        | (refine Go.Confl.chain_skip (Go.Confl.unwanted_is rfl rfl) ?_)
        | (first | apply Go.Confl.chain_is _ (Go.Confl.wanted_none rfl) | apply Go.Confl.chain_is _ (Go.Confl.wanted_is rfl rfl)
           · intro b w hr hb K hK
             simp [Go.Confl.readFacts, Go.Confl.tmpsOf, Go.Confl.writerOf, Go.Confl.Is, Op.operands, Call.operands, List.findIdx?, List.findIdx?.go] at hr
             obtain ⟨-, -, ⟨k0, k1, k2, k3⟩, ⟨z0, z1, z2, z3, z4, z5, z6, z7, _⟩⟩ := (HVU _ hb).out
             simp only at z0 z1 z2 z3 z4 z5 z6 z7
             go_wp2_with (first
               | (go_at_call 16; (with_reducible refine (HCK3 _).out.mono ?_); rintro e w' ⟨rfl, hb'⟩)
               | (go_at_call 21; (with_reducible refine (HCK4 _).out.mono ?_); rintro e w' ⟨rfl, hb'⟩))
             try (simp only [hr]; go_wp2)
             exact hK _ _ rfl (by first | exact Below.refl _ _ | assumption))
        simp only [List.nil_append, List.cons_append]
      iterate 10
        first
        | (refine Go.Confl.chain_skip (Go.Confl.unwanted_is rfl rfl) ?_)
        | (first | apply Go.Confl.chain_is _ (Go.Confl.wanted_none rfl) | apply Go.Confl.chain_is _ (Go.Confl.wanted_is rfl rfl)
           · intro b w hr hb K hK
             simp [Go.Confl.readFacts, Go.Confl.tmpsOf, Go.Confl.writerOf, Go.Confl.Is, Op.operands, Call.operands, List.findIdx?, List.findIdx?.go] at hr
             obtain ⟨-, ⟨z0, z1, z2, z3, z4, z5, z6, z7, _⟩, ⟨k0, k1, k2, k3⟩, -⟩ := (HVU _ hb).out
             simp only at z0 z1 z2 z3 z4 z5 z6 z7
             go_wp2_with (first
               | (go_at_call 16; (with_reducible refine (HCK5 _).out.mono ?_); rintro e w' ⟨rfl, hb'⟩)
               | (go_at_call 21; (with_reducible refine (HCK6 _).out.mono ?_); rintro e w' ⟨rfl, hb'⟩))
             try (simp only [hr]; go_wp2)
             exact hK _ _ rfl (by first | exact Below.refl _ _ | assumption))
        simp only [List.nil_append, List.cons_append]
      intro us w hp hb
      simp [Go.Confl.allPosts, Go.Confl.Is] at hp
      simp only [Go.Confl.putsFrom, hp, Act.put, List.setIfInBounds_toArray, List.set_cons_zero, List.set_cons_succ]
      go_wp2
      go_ret
      exact RetB.mk rfl (bel_trans HBU.out hb)
    · have HPV := fun w => Lib.hid (pick_at v 5 w HWV.out (by omega) (by omega))
      have hq := pickN_bd v (n := 5) (by omega)
      generalize pickN v 5 = k at *
      have hw : wrap64 (k - 1) = k - 1 := by unfold wrap64; omega
      clear hq
      go_wp2_with fail
      (with_reducible refine (HPV _).out.mono ?_); rintro e w' ⟨rfl, rfl⟩
      go_wp2_with fail
      have hcut : ∃ Z' : Zn, VarZ (Y.setCell ⟨p, 1, none⟩ (.int .i64 (k - 1))) p Z' ∧ Below X.heap.size X (Y.setCell ⟨p, 1, none⟩ (.int .i64 (k - 1))) := ⟨_, hY.set1 (k - 1), hBY.setCell (p := ⟨p, 1, none⟩) lp (.int .i64 (k - 1))⟩
      clear z0 z1 z2 z3 z4 z5 z6 z7 f0 f1 f2 f3 f4 f5 f6 f7 hY hBY hzb hcb HBp HVp
      generalize Y.setCell ⟨p, 1, none⟩ (.int .i64 (k - 1)) = wc at *
      obtain ⟨Z', hyc, hbc⟩ := hcut
      obtain ⟨yr, yu, ⟨ymb, ymi, yms⟩, ⟨yxb, yxi, yxs⟩⟩ := Z'
      have HCK3 := fun w => Lib.hid (zcheck_any ⟨#[120]⟩ ty 0 null yr yu ymb ymi yms yxb yxi yxs w)
      have HCK4 := fun w => Lib.hid (rcheckz_any ⟨#[120]⟩ ty 0 null yr yu ymb ymi yms yxb yxi yxs w)
      generalize zchk ty null ⟨yr, yu, ⟨ymb, ymi, yms⟩, ⟨yxb, yxi, yxs⟩⟩ = B2 at HCK3 HCK4
      have HVU := fun w' (hb : Below wc.heap.size wc w') => Lib.hid (And.intro (HC1.out.step (bel_trans hbc hb)) (And.intro (HZ1.out.step (bel_trans hbc hb)) (And.intro (HV.out _ (bel_trans hbc hb)) (hyc.step hb))))
      have HBU := Lib.hid (bel_trans HB1.out hbc)
      have HA := fun w => Lib.hid (awake14_any w)
      clear hyc hbc HC1 HZ1 HV HB1 HPV HTY HT HWV
      refine Go.Confl.wp_region_confl (by simp only [List.map_cons, List.map_nil]; rfl) (by kernel_rfl) (by kernel_rfl) ?_
      iterate 10
        first
        | (refine Go.Confl.chain_skip (Go.Confl.unwanted_is rfl rfl) ?_)
        | (first | apply Go.Confl.chain_is _ (Go.Confl.wanted_none rfl) | apply Go.Confl.chain_is _ (Go.Confl.wanted_is rfl rfl)
           · intro b w hr hb K hK
             simp [Go.Confl.readFacts, Go.Confl.tmpsOf, Go.Confl.writerOf, Go.Confl.Is, Op.operands, Call.operands, List.findIdx?, List.findIdx?.go] at hr
             obtain ⟨⟨k0, k1, k2, k3⟩, ⟨z0, z1, z2, z3, z4, z5, z6, z7, _⟩, -⟩ := (HVU _ hb).out
             simp only at z0 z1 z2 z3 z4 z5 z6 z7
             go_wp2_with (first
               | (go_at_call 14; (with_reducible refine (HA _).out.mono ?_); rintro e w' ⟨rfl, hb'⟩)
               | (go_at_call 16; (with_reducible refine (HCK1 _).out.mono ?_); rintro e w' ⟨rfl, hb'⟩)
               | (go_at_call 21; (with_reducible refine (HCK2 _).out.mono ?_); rintro e w' ⟨rfl, hb'⟩))
             try (simp only [hr]; go_wp2)
             exact hK _ _ rfl (by first | exact Below.refl _ _ | assumption))
        simp only [List.nil_append, List.cons_append]
      iterate 9
        first
        | (refine Go.Confl.chain_skip (Go.Confl.unwanted_is rfl rfl) ?_)
        | (first | apply Go.Confl.chain_is _ (Go.Confl.wanted_none rfl) | apply Go.Confl.chain_is _ (Go.Confl.wanted_is rfl rfl)
           · intro b w hr hb K hK
             simp [Go.Confl.readFacts, Go.Confl.tmpsOf, Go.Confl.writerOf, Go.Confl.Is, Op.operands, Call.operands, List.findIdx?, List.findIdx?.go] at hr
             obtain ⟨-, -, ⟨k0, k1, k2, k3⟩, ⟨z0, z1, z2, z3, z4, z5, z6, z7, _⟩⟩ := (HVU _ hb).out
             simp only at z0 z1 z2 z3 z4 z5 z6 z7
             go_wp2_with (first
               | (go_at_call 16; (with_reducible refine (HCK3 _).out.mono ?_); rintro e w' ⟨rfl, hb'⟩)
               | (go_at_call 21; (with_reducible refine (HCK4 _).out.mono ?_); rintro e w' ⟨rfl, hb'⟩))
             try (simp only [hr]; go_wp2)
             exact hK _ _ rfl (by first | exact Below.refl _ _ | assumption))
        simp only [List.nil_append, List.cons_append]
      iterate 10
        first
        | (refine Go.Confl.chain_skip (Go.Confl.unwanted_is rfl rfl) ?_)
        | (first | apply Go.Confl.chain_is _ (Go.Confl.wanted_none rfl) | apply Go.Confl.chain_is _ (Go.Confl.wanted_is rfl rfl)
           · intro b w hr hb K hK
             simp [Go.Confl.readFacts, Go.Confl.tmpsOf, Go.Confl.writerOf, Go.Confl.Is, Op.operands, Call.operands, List.findIdx?, List.findIdx?.go] at hr
             obtain ⟨-, ⟨z0, z1, z2, z3, z4, z5, z6, z7, _⟩, ⟨k0, k1, k2, k3⟩, -⟩ := (HVU _ hb).out
             simp only at z0 z1 z2 z3 z4 z5 z6 z7
             go_wp2_with (first
               | (go_at_call 16; (with_reducible refine (HCK5 _).out.mono ?_); rintro e w' ⟨rfl, hb'⟩)
               | (go_at_call 21; (with_reducible refine (HCK6 _).out.mono ?_); rintro e w' ⟨rfl, hb'⟩))
             try (simp only [hr]; go_wp2)
             exact hK _ _ rfl (by first | exact Below.refl _ _ | assumption))
        simp only [List.nil_append, List.cons_append]
      intro us w hp hb
      simp [Go.Confl.allPosts, Go.Confl.Is] at hp
      simp only [Go.Confl.putsFrom, hp, Act.put, List.setIfInBounds_toArray, List.set_cons_zero, List.set_cons_succ]
      go_wp2
      go_ret
      exact RetB.mk rfl (bel_trans HBU.out hb)
    · go_wp2_with fail
      have HPV := True.intro
      have hcut : ∃ Z' : Zn, VarZ ((((((Y.setCell ⟨p, 2, none⟩ (.bool xb)).setCell ⟨p, 3, none⟩ (.int .i64 xi)).setCell ⟨p, 4, none⟩ (.string xs)).setCell ⟨p, 5, none⟩ (.bool mb)).setCell ⟨p, 6, none⟩ (.int .i64 mi)).setCell ⟨p, 7, none⟩ (.string ms)) p Z' ∧ Below X.heap.size X ((((((Y.setCell ⟨p, 2, none⟩ (.bool xb)).setCell ⟨p, 3, none⟩ (.int .i64 xi)).setCell ⟨p, 4, none⟩ (.string xs)).setCell ⟨p, 5, none⟩ (.bool mb)).setCell ⟨p, 6, none⟩ (.int .i64 mi)).setCell ⟨p, 7, none⟩ (.string ms)) := ⟨_, (hY.setMn ⟨xb, xi, xs⟩).setMx ⟨mb, mi, ms⟩, set3V_below (k := 5) (set3V_below (k := 2) hBY lp) lp⟩
      clear z0 z1 z2 z3 z4 z5 z6 z7 f0 f1 f2 f3 f4 f5 f6 f7 hY hBY hzb hcb HBp HVp
      generalize (((((Y.setCell ⟨p, 2, none⟩ (.bool xb)).setCell ⟨p, 3, none⟩ (.int .i64 xi)).setCell ⟨p, 4, none⟩ (.string xs)).setCell ⟨p, 5, none⟩ (.bool mb)).setCell ⟨p, 6, none⟩ (.int .i64 mi)).setCell ⟨p, 7, none⟩ (.string ms) = wc at *
      obtain ⟨Z', hyc, hbc⟩ := hcut
      obtain ⟨yr, yu, ⟨ymb, ymi, yms⟩, ⟨yxb, yxi, yxs⟩⟩ := Z'
      have HCK3 := fun w => Lib.hid (zcheck_any ⟨#[120]⟩ ty 0 null yr yu ymb ymi yms yxb yxi yxs w)
      have HCK4 := fun w => Lib.hid (rcheckz_any ⟨#[120]⟩ ty 0 null yr yu ymb ymi yms yxb yxi yxs w)
      generalize zchk ty null ⟨yr, yu, ⟨ymb, ymi, yms⟩, ⟨yxb, yxi, yxs⟩⟩ = B2 at HCK3 HCK4
      have HVU := fun w' (hb : Below wc.heap.size wc w') => Lib.hid (And.intro (HC1.out.step (bel_trans hbc hb)) (And.intro (HZ1.out.step (bel_trans hbc hb)) (And.intro (HV.out _ (bel_trans hbc hb)) (hyc.step hb))))
      have HBU := Lib.hid (bel_trans HB1.out hbc)
      have HA := fun w => Lib.hid (awake14_any w)
      clear hyc hbc HC1 HZ1 HV HB1 HPV HTY HT HWV
      refine Go.Confl.wp_region_confl (by simp only [List.map_cons, List.map_nil]; rfl) (by kernel_rfl) (by kernel_rfl) ?_
      iterate 10
        first
        | (refine Go.Confl.chain_skip (Go.Confl.unwanted_is rfl rfl) ?_)
        | (first | apply Go.Confl.chain_is _ (Go.Confl.wanted_none rfl) | apply Go.Confl.chain_is _ (Go.Confl.wanted_is rfl rfl)
           · intro b w hr hb K hK
             simp [Go.Confl.readFacts, Go.Confl.tmpsOf, Go.Confl.writerOf, Go.Confl.Is, Op.operands, Call.operands, List.findIdx?, List.findIdx?.go] at hr
             obtain ⟨⟨k0, k1, k2, k3⟩, ⟨z0, z1, z2, z3, z4, z5, z6, z7, _⟩, -⟩ := (HVU _ hb).out
             simp only at z0 z1 z2 z3 z4 z5 z6 z7
             go_wp2_with (first
               | (go_at_call 14; (with_reducible refine (HA _).out.mono ?_); rintro e w' ⟨rfl, hb'⟩)
               | (go_at_call 16; (with_reducible refine (HCK1 _).out.mono ?_); rintro e w' ⟨rfl, hb'⟩)
               | (go_at_call 21; (with_reducible refine (HCK2 _).out.mono ?_); rintro e w' ⟨rfl, hb'⟩))
             try (simp only [hr]; go_wp2)
             exact hK _ _ rfl (by first | exact Below.refl _ _ | assumption))
        simp only [List.nil_append, List.cons_append]
      iterate 9
        first
        | (refine Go.Confl.chain_skip (Go.Confl.unwanted_is rfl rfl) ?_)
        | (first | apply Go.Confl.chain_is _ (Go.Confl.wanted_none rfl) | apply Go.Confl.chain_is _ (Go.Confl.wanted_is rfl rfl)
           · intro b w hr hb K hK
             simp [Go.Confl.readFacts, Go.Confl.tmpsOf, Go.Confl.writerOf, Go.Confl.Is, Op.operands, Call.operands, List.findIdx?, List.findIdx?.go] at hr
             obtain ⟨-, -, ⟨k0, k1, k2, k3⟩, ⟨z0, z1, z2, z3, z4, z5, z6, z7, _⟩⟩ := (HVU _ hb).out
             simp only at z0 z1 z2 z3 z4 z5 z6 z7
             go_wp2_with (first
               | (go_at_call 16; (with_reducible refine (HCK3 _).out.mono ?_); rintro e w' ⟨rfl, hb'⟩)
               | (go_at_call 21; (with_reducible refine (HCK4 _).out.mono ?_); rintro e w' ⟨rfl, hb'⟩))
             try (simp only [hr]; go_wp2)
             exact hK _ _ rfl (by first | exact Below.refl _ _ | assumption))
        simp only [List.nil_append, List.cons_append]
      iterate 10
        first
        | (refine Go.Confl.chain_skip (Go.Confl.unwanted_is rfl rfl) ?_)
        | (first | apply Go.Confl.chain_is _ (Go.Confl.wanted_none rfl) | apply Go.Confl.chain_is _ (Go.Confl.wanted_is rfl rfl)
           · intro b w hr hb K hK
             simp [Go.Confl.readFacts, Go.Confl.tmpsOf, Go.Confl.writerOf, Go.Confl.Is, Op.operands, Call.operands, List.findIdx?, List.findIdx?.go] at hr
             obtain ⟨-, ⟨z0, z1, z2, z3, z4, z5, z6, z7, _⟩, ⟨k0, k1, k2, k3⟩, -⟩ := (HVU _ hb).out
             simp only at z0 z1 z2 z3 z4 z5 z6 z7
             go_wp2_with (first
               | (go_at_call 16; (with_reducible refine (HCK5 _).out.mono ?_); rintro e w' ⟨rfl, hb'⟩)
               | (go_at_call 21; (with_reducible refine (HCK6 _).out.mono ?_); rintro e w' ⟨rfl, hb'⟩))
             try (simp only [hr]; go_wp2)
             exact hK _ _ rfl (by first | exact Below.refl _ _ | assumption))
        simp only [List.nil_append, List.cons_append]
      intro us w hp hb
      simp [Go.Confl.allPosts, Go.Confl.Is] at hp
      simp only [Go.Confl.putsFrom, hp, Act.put, List.setIfInBounds_toArray, List.set_cons_zero, List.set_cons_succ]
      go_wp2
      go_ret
      exact RetB.mk rfl (bel_trans HBU.out hb)
    · have HPV := fun w => Lib.hid (pick_at v 2 w HWV.out (by omega) (by omega))
      have hq := pickN_bd v (n := 2) (by omega)
      generalize pickN v 2 = k at *
      clear hq
      go_wp2_with fail
      (with_reducible refine (HPV _).out.mono ?_); rintro e w' ⟨rfl, rfl⟩
      go_wp2_with fail
      have hcut : ∃ Z' : Zn, VarZ (((Y.setCell ⟨p, 2, none⟩ (.bool true)).setCell ⟨p, 3, none⟩ (.int .i64 k)).setCell ⟨p, 4, none⟩ (.string ⟨#[]⟩)) p Z' ∧ Below X.heap.size X (((Y.setCell ⟨p, 2, none⟩ (.bool true)).setCell ⟨p, 3, none⟩ (.int .i64 k)).setCell ⟨p, 4, none⟩ (.string ⟨#[]⟩)) := ⟨_, hY.setMn ⟨true, k, ⟨#[]⟩⟩, set3V_below (k := 2) hBY lp⟩
      clear z0 z1 z2 z3 z4 z5 z6 z7 f0 f1 f2 f3 f4 f5 f6 f7 hY hBY hzb hcb HBp HVp
      generalize ((Y.setCell ⟨p, 2, none⟩ (.bool true)).setCell ⟨p, 3, none⟩ (.int .i64 k)).setCell ⟨p, 4, none⟩ (.string ⟨#[]⟩) = wc at *
      obtain ⟨Z', hyc, hbc⟩ := hcut
      obtain ⟨yr, yu, ⟨ymb, ymi, yms⟩, ⟨yxb, yxi, yxs⟩⟩ := Z'
      have HCK3 := fun w => Lib.hid (zcheck_any ⟨#[120]⟩ ty 0 null yr yu ymb ymi yms yxb yxi yxs w)
      have HCK4 := fun w => Lib.hid (rcheckz_any ⟨#[120]⟩ ty 0 null yr yu ymb ymi yms yxb yxi yxs w)
      generalize zchk ty null ⟨yr, yu, ⟨ymb, ymi, yms⟩, ⟨yxb, yxi, yxs⟩⟩ = B2 at HCK3 HCK4
      have HVU := fun w' (hb : Below wc.heap.size wc w') => Lib.hid (And.intro (HC1.out.step (bel_trans hbc hb)) (And.intro (HZ1.out.step (bel_trans hbc hb)) (And.intro (HV.out _ (bel_trans hbc hb)) (hyc.step hb))))
      have HBU := Lib.hid (bel_trans HB1.out hbc)
      have HA := fun w => Lib.hid (awake14_any w)
      clear hyc hbc HC1 HZ1 HV HB1 HPV HTY HT HWV
      refine Go.Confl.wp_region_confl (by simp only [List.map_cons, List.map_nil]; rfl) (by kernel_rfl) (by kernel_rfl) ?_
      iterate 10
        first
        | (refine Go.Confl.chain_skip (Go.Confl.unwanted_is rfl rfl) ?_)
        | (first | apply Go.Confl.chain_is _ (Go.Confl.wanted_none rfl) | apply Go.Confl.chain_is _ (Go.Confl.wanted_is rfl rfl)
           · intro b w hr hb K hK
             simp [Go.Confl.readFacts, Go.Confl.tmpsOf, Go.Confl.writerOf, Go.Confl.Is, Op.operands, Call.operands, List.findIdx?, List.findIdx?.go] at hr
             obtain ⟨⟨k0, k1, k2, k3⟩, ⟨z0, z1, z2, z3, z4, z5, z6, z7, _⟩, -⟩ := (HVU _ hb).out
             simp only at z0 z1 z2 z3 z4 z5 z6 z7
             go_wp2_with (first
               | (go_at_call 14; (with_reducible refine (HA _).out.mono ?_); rintro e w' ⟨rfl, hb'⟩)
               | (go_at_call 16; (with_reducible refine (HCK1 _).out.mono ?_); rintro e w' ⟨rfl, hb'⟩)
               | (go_at_call 21; (with_reducible refine (HCK2 _).out.mono ?_); rintro e w' ⟨rfl, hb'⟩))
             try (simp only [hr]; go_wp2)
             exact hK _ _ rfl (by first | exact Below.refl _ _ | assumption))
        simp only [List.nil_append, List.cons_append]
      iterate 9
        first
        | (refine Go.Confl.chain_skip (Go.Confl.unwanted_is rfl rfl) ?_)
        | (first | apply Go.Confl.chain_is _ (Go.Confl.wanted_none rfl) | apply Go.Confl.chain_is _ (Go.Confl.wanted_is rfl rfl)
           · intro b w hr hb K hK
             simp [Go.Confl.readFacts, Go.Confl.tmpsOf, Go.Confl.writerOf, Go.Confl.Is, Op.operands, Call.operands, List.findIdx?, List.findIdx?.go] at hr
             obtain ⟨-, -, ⟨k0, k1, k2, k3⟩, ⟨z0, z1, z2, z3, z4, z5, z6, z7, _⟩⟩ := (HVU _ hb).out
             simp only at z0 z1 z2 z3 z4 z5 z6 z7
             go_wp2_with (first
               | (go_at_call 16; (with_reducible refine (HCK3 _).out.mono ?_); rintro e w' ⟨rfl, hb'⟩)
               | (go_at_call 21; (with_reducible refine (HCK4 _).out.mono ?_); rintro e w' ⟨rfl, hb'⟩))
             try (simp only [hr]; go_wp2)
             exact hK _ _ rfl (by first | exact Below.refl _ _ | assumption))
        simp only [List.nil_append, List.cons_append]
      iterate 10
        first
        | (refine Go.Confl.chain_skip (Go.Confl.unwanted_is rfl rfl) ?_)
        | (first | apply Go.Confl.chain_is _ (Go.Confl.wanted_none rfl) | apply Go.Confl.chain_is _ (Go.Confl.wanted_is rfl rfl)
           · intro b w hr hb K hK
             simp [Go.Confl.readFacts, Go.Confl.tmpsOf, Go.Confl.writerOf, Go.Confl.Is, Op.operands, Call.operands, List.findIdx?, List.findIdx?.go] at hr
             obtain ⟨-, ⟨z0, z1, z2, z3, z4, z5, z6, z7, _⟩, ⟨k0, k1, k2, k3⟩, -⟩ := (HVU _ hb).out
             simp only at z0 z1 z2 z3 z4 z5 z6 z7
             go_wp2_with (first
               | (go_at_call 16; (with_reducible refine (HCK5 _).out.mono ?_); rintro e w' ⟨rfl, hb'⟩)
               | (go_at_call 21; (with_reducible refine (HCK6 _).out.mono ?_); rintro e w' ⟨rfl, hb'⟩))
             try (simp only [hr]; go_wp2)
             exact hK _ _ rfl (by first | exact Below.refl _ _ | assumption))
        simp only [List.nil_append, List.cons_append]
      intro us w hp hb
      simp [Go.Confl.allPosts, Go.Confl.Is] at hp
      simp only [Go.Confl.putsFrom, hp, Act.put, List.setIfInBounds_toArray, List.set_cons_zero, List.set_cons_succ]
      go_wp2
      go_ret
      exact RetB.mk rfl (bel_trans HBU.out hb)
    · have hwv := bounds_i64 HWV.out
      have h3 : ∃ a3, wrap64 (v.tdiv 3) = a3 ∧ IntKind.i64.wrap (v.tdiv 3) = a3 ∧ (Lit.int .i64 a3).wf = true := quo_wf v 3 (by omega) hwv
      have h7 : ∃ a7, wrap64 (v.tdiv 7) = a7 ∧ IntKind.i64.wrap (v.tdiv 7) = a7 ∧ (Lit.int .i64 a7).wf = true := quo_wf v 7 (by omega) hwv
      obtain ⟨a3, h3a, h3b, h3c⟩ := h3
      obtain ⟨a7, h7a, h7b, h7c⟩ := h7
      have HKO := fun w r => Lib.hid (kone_any w (.slice (some ⟨Y.heap.size, 0, none⟩) 3 3) [v, a3, a7] ⟨#[120]⟩ ty 0 null r (by intro z hz; simp only [List.mem_cons, List.not_mem_nil, or_false] at hz; rcases hz with rfl | rfl | rfl; exact HWV.out; exact h3c; exact h7c) HTY.out)
      have hlit := rdI_lit3 Y v a3 a7 3
      have hyA := hY.alloc (.cells #[.int .i64 v, .int .i64 a3, .int .i64 a7] 3)
      have hbA := hBY.alloc hBY.size (.cells #[.int .i64 v, .int .i64 a3, .int .i64 a7] 3)
      have hdA := HV.out _ hbA
      have hpl := hY.lt
      obtain ⟨k0, k1, k2, k3⟩ := HV.out _ hBY
      clear hwv h3c h7c
      go_wp2_with fail
      (with_reducible refine (HKO _ hlit).out.mono ?_); rintro e w5 ⟨nul, n, s, rfl, -, hb5⟩
      have hY5 := hyA.step hb5
      have hB5 := hbA.trans (hb5.mono hbA.size)
      clear k0 k1 k2 k3 hyA hbA hdA HKO hlit h3a h3b h7a h7b z0 z1 z2 z3 z4 z5 z6 z7 f0 f1 f2 f3 f4 f5 f6 f7 hY hBY
      obtain ⟨f0, f1, f2, f3, f4, f5, f6, f7⟩ := hY5.frz
      obtain ⟨z0, z1, z2, z3, z4, z5, z6, z7, _⟩ := id hY5
      simp only at z0 z1 z2 z3 z4 z5 z6 z7
      go_wp2_with fail
      have hY := hY5
      have hBY := hB5
      have HPV := True.intro
      have hcut : ∃ Z' : Zn, VarZ (((w5.setCell ⟨p, 5, none⟩ (.bool nul)).setCell ⟨p, 6, none⟩ (.int .i64 n)).setCell ⟨p, 7, none⟩ (.string s)) p Z' ∧ Below X.heap.size X (((w5.setCell ⟨p, 5, none⟩ (.bool nul)).setCell ⟨p, 6, none⟩ (.int .i64 n)).setCell ⟨p, 7, none⟩ (.string s)) := ⟨_, hY5.setMx ⟨nul, n, s⟩, set3V_below (k := 5) hB5 lp⟩
      clear z0 z1 z2 z3 z4 z5 z6 z7 f0 f1 f2 f3 f4 f5 f6 f7 hY hBY hzb hcb HBp HVp
      generalize ((w5.setCell ⟨p, 5, none⟩ (.bool nul)).setCell ⟨p, 6, none⟩ (.int .i64 n)).setCell ⟨p, 7, none⟩ (.string s) = wc at *
      obtain ⟨Z', hyc, hbc⟩ := hcut
      obtain ⟨yr, yu, ⟨ymb, ymi, yms⟩, ⟨yxb, yxi, yxs⟩⟩ := Z'
      have HCK3 := fun w => Lib.hid (zcheck_any ⟨#[120]⟩ ty 0 null yr yu ymb ymi yms yxb yxi yxs w)
      have HCK4 := fun w => Lib.hid (rcheckz_any ⟨#[120]⟩ ty 0 null yr yu ymb ymi yms yxb yxi yxs w)
      generalize zchk ty null ⟨yr, yu, ⟨ymb, ymi, yms⟩, ⟨yxb, yxi, yxs⟩⟩ = B2 at HCK3 HCK4
      have HVU := fun w' (hb : Below wc.heap.size wc w') => Lib.hid (And.intro (HC1.out.step (bel_trans hbc hb)) (And.intro (HZ1.out.step (bel_trans hbc hb)) (And.intro (HV.out _ (bel_trans hbc hb)) (hyc.step hb))))
      have HBU := Lib.hid (bel_trans HB1.out hbc)
      have HA := fun w => Lib.hid (awake14_any w)
      clear hyc hbc HC1 HZ1 HV HB1 HPV HTY HT HWV
      refine Go.Confl.wp_region_confl (by simp only [List.map_cons, List.map_nil]; rfl) (by kernel_rfl) (by kernel_rfl) ?_
      iterate 10
        first
        | (refine Go.Confl.chain_skip (Go.Confl.unwanted_is rfl rfl) ?_)
        | (first | apply Go.Confl.chain_is _ (Go.Confl.wanted_none rfl) | apply Go.Confl.chain_is _ (Go.Confl.wanted_is rfl rfl)
           · intro b w hr hb K hK
             simp [Go.Confl.readFacts, Go.Confl.tmpsOf, Go.Confl.writerOf, Go.Confl.Is, Op.operands, Call.operands, List.findIdx?, List.findIdx?.go] at hr
             obtain ⟨⟨k0, k1, k2, k3⟩, ⟨z0, z1, z2, z3, z4, z5, z6, z7, _⟩, -⟩ := (HVU _ hb).out
             simp only at z0 z1 z2 z3 z4 z5 z6 z7
             go_wp2_with (first
               | (go_at_call 14; (with_reducible refine (HA _).out.mono ?_); rintro e w' ⟨rfl, hb'⟩)
               | (go_at_call 16; (with_reducible refine (HCK1 _).out.mono ?_); rintro e w' ⟨rfl, hb'⟩)
               | (go_at_call 21; (with_reducible refine (HCK2 _).out.mono ?_); rintro e w' ⟨rfl, hb'⟩))
             try (simp only [hr]; go_wp2)
             exact hK _ _ rfl (by first | exact Below.refl _ _ | assumption))
        simp only [List.nil_append, List.cons_append]
      iterate 9
        first
        | (refine Go.Confl.chain_skip (Go.Confl.unwanted_is rfl rfl) ?_)
        | (first | apply Go.Confl.chain_is _ (Go.Confl.wanted_none rfl) | apply Go.Confl.chain_is _ (Go.Confl.wanted_is rfl rfl)
           · intro b w hr hb K hK
             simp [Go.Confl.readFacts, Go.Confl.tmpsOf, Go.Confl.writerOf, Go.Confl.Is, Op.operands, Call.operands, List.findIdx?, List.findIdx?.go] at hr
             obtain ⟨-, -, ⟨k0, k1, k2, k3⟩, ⟨z0, z1, z2, z3, z4, z5, z6, z7, _⟩⟩ := (HVU _ hb).out
             simp only at z0 z1 z2 z3 z4 z5 z6 z7
             go_wp2_with (first
               | (go_at_call 16; (with_reducible refine (HCK3 _).out.mono ?_); rintro e w' ⟨rfl, hb'⟩)
               | (go_at_call 21; (with_reducible refine (HCK4 _).out.mono ?_); rintro e w' ⟨rfl, hb'⟩))
             try (simp only [hr]; go_wp2)
             exact hK _ _ rfl (by first | exact Below.refl _ _ | assumption))
        simp only [List.nil_append, List.cons_append]
      iterate 10
        first
        | (refine Go.Confl.chain_skip (Go.Confl.unwanted_is rfl rfl) ?_)
        | (first | apply Go.Confl.chain_is _ (Go.Confl.wanted_none rfl) | apply Go.Confl.chain_is _ (Go.Confl.wanted_is rfl rfl)
           · intro b w hr hb K hK
             simp [Go.Confl.readFacts, Go.Confl.tmpsOf, Go.Confl.writerOf, Go.Confl.Is, Op.operands, Call.operands, List.findIdx?, List.findIdx?.go] at hr
             obtain ⟨-, ⟨z0, z1, z2, z3, z4, z5, z6, z7, _⟩, ⟨k0, k1, k2, k3⟩, -⟩ := (HVU _ hb).out
             simp only at z0 z1 z2 z3 z4 z5 z6 z7
             go_wp2_with (first
               | (go_at_call 16; (with_reducible refine (HCK5 _).out.mono ?_); rintro e w' ⟨rfl, hb'⟩)
               | (go_at_call 21; (with_reducible refine (HCK6 _).out.mono ?_); rintro e w' ⟨rfl, hb'⟩))
             try (simp only [hr]; go_wp2)
             exact hK _ _ rfl (by first | exact Below.refl _ _ | assumption))
        simp only [List.nil_append, List.cons_append]
      intro us w hp hb
      simp [Go.Confl.allPosts, Go.Confl.Is] at hp
      simp only [Go.Confl.putsFrom, hp, Act.put, List.setIfInBounds_toArray, List.set_cons_zero, List.set_cons_succ]
      go_wp2
      go_ret
      exact RetB.mk rfl (bel_trans HBU.out hb)
    · have HPV := fun w => Lib.hid (pick_at v 2 w HWV.out (by omega) (by omega))
      have hq := pickN_bd v (n := 2) (by omega)
      generalize pickN v 2 = k at *
      have hw : wrap64 (4096 + k) = 4096 + k := by unfold wrap64; omega
      clear hq
      go_wp2_with fail
      (with_reducible refine (HPV _).out.mono ?_); rintro e w' ⟨rfl, rfl⟩
      go_wp2_with fail
      have hcut : ∃ Z' : Zn, VarZ (Y.setCell ⟨p, 0, none⟩ (.int .i64 (4096 + k))) p Z' ∧ Below X.heap.size X (Y.setCell ⟨p, 0, none⟩ (.int .i64 (4096 + k))) := ⟨_, hY.set0 (4096 + k), hBY.setCell (p := ⟨p, 0, none⟩) lp (.int .i64 (4096 + k))⟩
      clear z0 z1 z2 z3 z4 z5 z6 z7 f0 f1 f2 f3 f4 f5 f6 f7 hY hBY hzb hcb HBp HVp
      generalize Y.setCell ⟨p, 0, none⟩ (.int .i64 (4096 + k)) = wc at *
      obtain ⟨Z', hyc, hbc⟩ := hcut
      obtain ⟨yr, yu, ⟨ymb, ymi, yms⟩, ⟨yxb, yxi, yxs⟩⟩ := Z'
      have HCK3 := fun w => Lib.hid (zcheck_any ⟨#[120]⟩ ty 0 null yr yu ymb ymi yms yxb yxi yxs w)
      have HCK4 := fun w => Lib.hid (rcheckz_any ⟨#[120]⟩ ty 0 null yr yu ymb ymi yms yxb yxi yxs w)
      generalize zchk ty null ⟨yr, yu, ⟨ymb, ymi, yms⟩, ⟨yxb, yxi, yxs⟩⟩ = B2 at HCK3 HCK4
      have HVU := fun w' (hb : Below wc.heap.size wc w') => Lib.hid (And.intro (HC1.out.step (bel_trans hbc hb)) (And.intro (HZ1.out.step (bel_trans hbc hb)) (And.intro (HV.out _ (bel_trans hbc hb)) (hyc.step hb))))
      have HBU := Lib.hid (bel_trans HB1.out hbc)
      have HA := fun w => Lib.hid (awake14_any w)
      clear hyc hbc HC1 HZ1 HV HB1 HPV HTY HT HWV
      refine Go.Confl.wp_region_confl (by simp only [List.map_cons, List.map_nil]; rfl) (by kernel_rfl) (by kernel_rfl) ?_
      iterate 10
        first
        | (refine Go.Confl.chain_skip (Go.Confl.unwanted_is rfl rfl) ?_)
        | (first | apply Go.Confl.chain_is _ (Go.Confl.wanted_none rfl) | apply Go.Confl.chain_is _ (Go.Confl.wanted_is rfl rfl)
           · intro b w hr hb K hK
             simp [Go.Confl.readFacts, Go.Confl.tmpsOf, Go.Confl.writerOf, Go.Confl.Is, Op.operands, Call.operands, List.findIdx?, List.findIdx?.go] at hr
             obtain ⟨⟨k0, k1, k2, k3⟩, ⟨z0, z1, z2, z3, z4, z5, z6, z7, _⟩, -⟩ := (HVU _ hb).out
             simp only at z0 z1 z2 z3 z4 z5 z6 z7
             go_wp2_with (first
               | (go_at_call 14; (with_reducible refine (HA _).out.mono ?_); rintro e w' ⟨rfl, hb'⟩)
               | (go_at_call 16; (with_reducible refine (HCK1 _).out.mono ?_); rintro e w' ⟨rfl, hb'⟩)
               | (go_at_call 21; (with_reducible refine (HCK2 _).out.mono ?_); rintro e w' ⟨rfl, hb'⟩))
             try (simp only [hr]; go_wp2)
             exact hK _ _ rfl (by first | exact Below.refl _ _ | assumption))
        simp only [List.nil_append, List.cons_append]
      iterate 9
        first
        | (refine Go.Confl.chain_skip (Go.Confl.unwanted_is rfl rfl) ?_)
        | (first | apply Go.Confl.chain_is _ (Go.Confl.wanted_none rfl) | apply Go.Confl.chain_is _ (Go.Confl.wanted_is rfl rfl)
           · intro b w hr hb K hK
             simp [Go.Confl.readFacts, Go.Confl.tmpsOf, Go.Confl.writerOf, Go.Confl.Is, Op.operands, Call.operands, List.findIdx?, List.findIdx?.go] at hr
             obtain ⟨-, -, ⟨k0, k1, k2, k3⟩, ⟨z0, z1, z2, z3, z4, z5, z6, z7, _⟩⟩ := (HVU _ hb).out
             simp only at z0 z1 z2 z3 z4 z5 z6 z7
             go_wp2_with (first
               | (go_at_call 16; (with_reducible refine (HCK3 _).out.mono ?_); rintro e w' ⟨rfl, hb'⟩)
               | (go_at_call 21; (with_reducible refine (HCK4 _).out.mono ?_); rintro e w' ⟨rfl, hb'⟩))
             try (simp only [hr]; go_wp2)
             exact hK _ _ rfl (by first | exact Below.refl _ _ | assumption))
        simp only [List.nil_append, List.cons_append]
      iterate 10
        first
        | (refine Go.Confl.chain_skip (Go.Confl.unwanted_is rfl rfl) ?_)
        | (first | apply Go.Confl.chain_is _ (Go.Confl.wanted_none rfl) | apply Go.Confl.chain_is _ (Go.Confl.wanted_is rfl rfl)
           · intro b w hr hb K hK
             simp [Go.Confl.readFacts, Go.Confl.tmpsOf, Go.Confl.writerOf, Go.Confl.Is, Op.operands, Call.operands, List.findIdx?, List.findIdx?.go] at hr
             obtain ⟨-, ⟨z0, z1, z2, z3, z4, z5, z6, z7, _⟩, ⟨k0, k1, k2, k3⟩, -⟩ := (HVU _ hb).out
             simp only at z0 z1 z2 z3 z4 z5 z6 z7
             go_wp2_with (first
               | (go_at_call 16; (with_reducible refine (HCK5 _).out.mono ?_); rintro e w' ⟨rfl, hb'⟩)
               | (go_at_call 21; (with_reducible refine (HCK6 _).out.mono ?_); rintro e w' ⟨rfl, hb'⟩))
             try (simp only [hr]; go_wp2)
             exact hK _ _ rfl (by first | exact Below.refl _ _ | assumption))
        simp only [List.nil_append, List.cons_append]
      intro us w hp hb
      simp [Go.Confl.allPosts, Go.Confl.Is] at hp
      simp only [Go.Confl.putsFrom, hp, Act.put, List.setIfInBounds_toArray, List.set_cons_zero, List.set_cons_succ]
      go_wp2
      go_ret
      exact RetB.mk rfl (bel_trans HBU.out hb)
theorem zoneChecks_holds : Rows.ZoneChecksSaid :=
  OpenClaim.holds_of_wide 7 Try.f7 rfl rfl rfl rfl rfl rfl rfl ⟨rfl, rfl, rfl, rfl, rfl⟩ rfl rfl rfl rfl rfl (by kernel_rfl) Try.func7 (by kernel_rfl)
    (of_decide_eq_true (by kernel_rfl)) (by unfold Func.isWrapper; first | (rw [if_pos (by decide +kernel)]; kernel_rfl) | (rw [if_neg (by decide +kernel)]; exact ⟨rfl, rfl⟩))
    (fun os started H enc _ => zoneChecks_lifted os started H enc)
end Go.Proofs.Ythohmngckpjlbaa
