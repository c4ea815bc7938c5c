/- Statements of layer 14: ZonePuts. -/
import Derived.Test.YthohmngckpjlbaaZoK
import Derived.Test.YthohmngckpjlbaaZoW9
namespace Go.Proofs.Ythohmngckpjlbaa
open Go.RowKit Go.VB Go.VL Go.VS Go.ZN Go.CK Go.VarM Go.ChangeShapes Go.WideShapes Go.ChangeAt
open Go.ChangeMaps (open_string)
set_option linter.constructorNameAsVariable false
set_option maxRecDepth 100000 in
set_option maxHeartbeats 4000000 in
theorem zonePuts_lifted (os : Os) (started : os.Started) (H : Type) (enc : TypeId × Value → H) :
    ReturnsInHanded {} Try.checked os 8 .any (Rows.zonePutsSpec.pre6 enc Try.prog Try.f8 Rows.zonePutsRow.domain false) (Rows.zonePutsSpec.post enc Try.prog Try.f8 false true false false) := by
  refine law_lifted (C := Try.checked) (tb := 4) started Try.own Try.laidOut (by kernel_rfl) Try.func8
    (ChangeSpec.witness6 (enc := enc) (C := Try.checked) false ⟨#[], #[.agg #[.int .i64 0, .int .i64 0, .bool false, .int .i64 0, .string ⟨#[]⟩, .bool false, .int .i64 0, .string ⟨#[]⟩], .string ⟨#[]⟩, .int .i64 0, .int .i64 0, .slice none 0 0], []⟩ 8 (by kernel_rfl) (by kernel_rfl) (by kernel_rfl) (by kernel_rfl))
    rfl rfl Try.underlying4 (by kernel_rfl) (fun ds h => ?_) (fun W base args ds p hval0 hA0 hsz0 hlt => ?_)
  · have h' : ds.length = Try.f8.params.toList.length := h
    rw [Try.params8] at h'
    match ds, h' with
    | [_, _, _, _, _], _ => rfl
  · have hval : ∀ (j : Nat) t v, Try.f8.params[j]? = some t → args[j]? = some v → Value.okWide Try.prog W .any base t v := hval0
    have hA : DataW.TrodAll enc Try.prog W 0 (fun _ => true) true Try.f8.params.toList args.toList ds p := hA0
    have hsz : (DataW.weightsEach Try.prog Try.f8.params.toList ds).all (· ≤ reachBytes) = true := hsz0
    rw [Try.params8] at hA hval hsz
    clear hA0 hval0 hsz0
    obtain ⟨v0, vs0, d0, ds0, p0, q0, hargs, rfl, rfl, h0, r0⟩ := trodAll_cons hA
    obtain ⟨v1, vs1, d1, ds1, p1, q1, rfl, rfl, rfl, h1, r1⟩ := trodAll_cons r0
    obtain ⟨v2, vs2, d2, ds2, p2, q2, rfl, rfl, rfl, h2, r2⟩ := trodAll_cons r1
    obtain ⟨v3, vs3, d3, ds3, p3, q3, rfl, rfl, rfl, h3, r3⟩ := trodAll_cons r2
    obtain ⟨v4, vs4, d4, ds4, p4, q4, rfl, rfl, rfl, h4, r4⟩ := trodAll_cons r3
    obtain ⟨rfl, rfl, rfl⟩ := trodAll_nil r4
    obtain rfl : args = #[v0, v1, v2, v3, v4] := by cases args; simp_all
    obtain ⟨zr, zu, zmb, zmn, zms, zxb, zxn, zxs, rfl, wzr, wzu, wzmn, zzms, wzxn, zzxs⟩ := open_zone (hval 0 25 v0 rfl rfl) h0 hsz (j := 0) rfl rfl
    obtain ⟨s, rfl, rfl, rfl, _⟩ := open_string Try.underlying9 (hval 1 9 v1 rfl rfl) h1
    have zs : s.size ≤ 140737488351232 := by have h := sized_string hsz (j := 1) (t := 9) rfl rfl; rw [size_list] at h; exact h
    obtain ⟨at', rfl, rfl, rfl, wat'⟩ := open_int Try.underlying3 (hval 2 3 v2 rfl rfl) h2
    obtain ⟨t, rfl, rfl, rfl, wt⟩ := open_int Try.underlying3 (hval 3 3 v3 rfl rfl) h3
    obtain ⟨zl, rl, wl, bl⟩ := open_rdI Try.underlying30 Try.underlying3 (by kernel_rfl) (hval 4 30 v4 rfl rfl) h4 hsz (j := 4) rfl rfl
    change Calls Try.prog 8 #[(.agg #[.int .i64 zr, .int .i64 zu, .bool zmb, .int .i64 zmn, .string zms, .bool zxb, .int .i64 zxn, .string zxs]), .string s, .int .i64 at', .int .i64 t, v4] W (RetB (.bool true) W)
    clear bl
    have HCOL := fun w => Lib.hid (column_any t true w wt)
    have hty := pick_ty t
    have HT := Lib.hid (okT_pick t)
    generalize 1 + pickN t 5 = ty at *
    have HKV := fun w r => Lib.hid (kvals_any w v4 zl ⟨#[120]⟩ ty 0 true r wl hty)
    have hb0 := (Below.refl W.heap.size W).alloc (Nat.le_refl _) (.cells #[.int .i64 zr, .int .i64 zu, .bool zmb, .int .i64 zmn, .string zms, .bool zxb, .int .i64 zxn, .string zxs] 25)
    have hz0 := VarZ.new W ⟨zr, zu, ⟨zmb, zmn, zms⟩, ⟨zxb, zxn, zxs⟩⟩ 25
    have hl0 := rl.step hb0
    have HP1 := fun w => Lib.hid (zput_any zr zu zmb zmn zms zxb zxn zxs w wzr wzu wzmn wzxn zzms zzxs)
    have HP2 := fun w => Lib.hid (rzput_any zr zu zmb zmn zms zxb zxn zxs w wzr wzu wzmn wzxn zzms zzxs)
    generalize str (putZ ⟨zr, zu, ⟨zmb, zmn, zms⟩, ⟨zxb, zxn, zxs⟩⟩) = PZ at HP1 HP2
    have HPK := fun w => Lib.hid (pick_at at' ((s.size : Int) + 3) w wat' (by omega) (by omega))
    obtain ⟨p0, p1⟩ := pickN_bd at' (n := (s.size : Int) + 3) (by omega)
    generalize pickN at' ((s.size : Int) + 3) = q1 at *
    have hk1 : wrap64 ((s.size : Int) + 3) = (s.size : Int) + 3 := by unfold wrap64; omega
    have hk2 : wrap64 (q1 - 1) = q1 - 1 := by unfold wrap64; omega
    have HK1 := Lib.hid hk1
    have HK2 := Lib.hid hk2
    have HG1 := fun w => Lib.hid (zget_any s (q1 - 1) w (by omega))
    have HG2 := fun w => Lib.hid (rzget_any s (q1 - 1) w (by omega))
    have hge : ∃ g, getZ s (q1 - 1) = g := ⟨_, rfl⟩
    obtain ⟨⟨⟨ar, au, ⟨amb, ami, ams⟩, ⟨axb, axi, axs⟩⟩, ai, ae⟩, hge⟩ := hge
    rw [hge] at HG1 HG2
    simp only [gZv, Zn.val] at HG1 HG2
    have HS := Lib.hid zs
    have HAT := Lib.hid wat'
    clear wt rl wzr wzu wzmn wzxn zzms zzxs hk1 hk2 p0 p1 hge zs wat'
    go_enter Try.func8, Try.ntmps8
    go_wp2_with fail
    (with_reducible refine (HCOL _).out.mono ?_); rintro e w1 ⟨rfl, hb1⟩
    have hba := (Below.refl w1.heap.size w1).alloc (Nat.le_refl _) (.cells #[.string ⟨#[120]⟩, .int .i64 ty, .int .i64 0, .bool true] 32)
    have hc1 := Var4.new w1 (.string ⟨#[120]⟩) (.int .i64 ty) (.int .i64 0) (.bool true) 32
    have hl1 := (hl0.step hb1).step hba
    have HZ1 := Lib.hid ((hz0.step hb1).step hba)
    have HB1 := Lib.hid (bel_trans (bel_trans hb0 hb1) hba)
    clear hb0 hb1 hba hl0 hz0 wl HCOL hty
    go_wp2_with fail
    generalize hg : w1.heap.size = g at *
    generalize w1.alloc (.cells #[.string ⟨#[120]⟩, .int .i64 ty, .int .i64 0, .bool true] 32) = X at *
    clear hg
    have HV := Lib.hid (show ∀ w, Below X.heap.size X w → Var4 w g (.string ⟨#[120]⟩) (.int .i64 ty) (.int .i64 0) (.bool true) from fun w hb => hc1.step hb)
    have HK := fun w (hb : Below X.heap.size X w) => Lib.hid (HKV w (hl1.step hb)).out
    clear HKV hl1 hc1
    refine Go.ConflA.wp_region_tail_at 7 (by simp only [List.take_succ_cons, List.take_zero, List.map_cons, List.map_nil]; rfl) (by kernel_rfl) (by kernel_rfl) (by kernel_rfl) (by kernel_rfl) (by kernel_rfl) (Nat.zero_lt_succ _) (by kernel_rfl) ?_
    simp only [List.take_succ_cons, List.take_zero, List.drop_succ_cons, List.drop_zero]
    iterate 4
      first
      | (refine Go.ConflA.chainA_skip (Go.Confl.unwanted_is rfl rfl) ?_)
      | (first | apply Go.ConflA.chainA_is _ (Go.Confl.wanted_none rfl) | apply Go.ConflA.chainA_is _ (Go.Confl.wanted_is rfl rfl)
         · intro b w hr hb K hK
           simp [Go.Confl.readFacts, Go.Confl.tmpsOf, Go.Confl.writerOf, Go.Confl.Is, Op.operands, List.findIdx?, List.findIdx?.go] at hr
           obtain ⟨k0, k1, k2, k3⟩ := HV.out _ hb
           go_wp2_with fail
           try (simp only [hr]; go_wp2)
           exact hK _ _ rfl (by first | exact Below.refl _ _ | assumption))
      simp only [List.nil_append, List.cons_append]
    apply Go.ConflA.chainA_any (KvQ ty true) (KvQ.stable ty true) (Go.Confl.wanted_none rfl)
    · intro f w hr hb K hK
      simp [Go.Confl.readFacts, Go.Confl.tmpsOf, Go.Confl.writerOf, Go.Confl.Is, Op.operands, Call.operands, List.findIdx?, List.findIdx?.go] at hr
      go_wp2_with (go_at_call 13; (with_reducible refine (HK _ hb).out.mono ?_); rintro e w' ⟨vx, lx, rfl, hown, hlx, hcx, hbx, hb'⟩)
      exact hK _ _ ⟨lx, hown.read, hlx, hcx, hbx⟩ hb'
    simp only [List.nil_append, List.cons_append]
    apply Go.ConflA.chainA_any (ZfQ ty true) (ZfQ.stable ty true) (Go.Confl.wanted_none rfl)
    · intro f w hr hb K hK
      simp [Go.Confl.readFacts, Go.Confl.tmpsOf, Go.Confl.writerOf, Go.Confl.Is, Op.operands, Call.operands, List.findIdx?, List.findIdx?.go] at hr
      obtain ⟨hr1, lx, hx, hlx⟩ := hr
      go_wp2_with (go_at_call 15; (with_reducible refine (rzof_any ty _ lx _ hx).mono ?_); rintro e w' ⟨rfl, hb'⟩)
      exact hK _ _ ⟨lx, hlx, rfl⟩ hb'
    simp only [List.nil_append, List.cons_append]
    apply Go.ConflA.chainA_any (NewZ X zn0) (NewZ.stable X zn0) (Go.Confl.wanted_none rfl)
    · intro f w hr hb K hK
      go_wp2_with fail
      exact hK _ _ ⟨_, rfl, hb.size, VarZ.new w zn0 25⟩ ((Below.refl _ _).alloc (Nat.le_refl _) _)
    simp only [List.nil_append, List.cons_append]
    intro us w hp hdist hb
    simp [Go.Confl.allPosts, Go.Confl.Is] at hp
    simp only [Go.Confl.putsFrom, Act.put, List.setIfInBounds_toArray, List.set_cons_zero, List.set_cons_succ]
    change wpList _ _ _ _ _ _
    obtain ⟨e0, e1, e2, e3, -, ⟨lx, hgood, e5⟩, ⟨p, e6, lp, Vp⟩⟩ := hp
    have hZ := zof_good HT.out hgood
    generalize zof ty lx = Z at hZ e5
    obtain ⟨r, u, ⟨mb, mi, ms⟩, ⟨xb, xi, xs⟩⟩ := Z
    simp only [Zn.val] at e5
    simp only [e0, e1, e2, e3, e5, e6]
    generalize us 4 = q4
    clear e0 e1 e2 e3 e5 e6 hdist hgood
    have hBp := put8_below (z := ⟨r, u, ⟨mb, mi, ms⟩, ⟨xb, xi, xs⟩⟩) hb lp
    have hVp := Vp.put ⟨r, u, ⟨mb, mi, ms⟩, ⟨xb, xi, xs⟩⟩
    change Below X.heap.size X ((((((((w.setCell ⟨p, 0, none⟩ (.int .i64 r)).setCell ⟨p, 1, none⟩ (.int .i64 u)).setCell ⟨p, 2, none⟩ (.bool mb)).setCell ⟨p, 3, none⟩ (.int .i64 mi)).setCell ⟨p, 4, none⟩ (.string ms)).setCell ⟨p, 5, none⟩ (.bool xb)).setCell ⟨p, 6, none⟩ (.int .i64 xi)).setCell ⟨p, 7, none⟩ (.string xs)) at hBp
    change VarZ ((((((((w.setCell ⟨p, 0, none⟩ (.int .i64 r)).setCell ⟨p, 1, none⟩ (.int .i64 u)).setCell ⟨p, 2, none⟩ (.bool mb)).setCell ⟨p, 3, none⟩ (.int .i64 mi)).setCell ⟨p, 4, none⟩ (.string ms)).setCell ⟨p, 5, none⟩ (.bool xb)).setCell ⟨p, 6, none⟩ (.int .i64 xi)).setCell ⟨p, 7, none⟩ (.string xs)) p ⟨r, u, ⟨mb, mi, ms⟩, ⟨xb, xi, xs⟩⟩ at hVp
    have HBp := Lib.hid hBp
    have HVp := Lib.hid hVp
    clear hBp hVp
    obtain ⟨f0, f1, f2, f3, f4, f5, f6, f7⟩ := Vp.frz
    obtain ⟨r0, r1, r2, r3, r4, r5, r6, r7, _⟩ := Vp
    go_upto_region 3 with fail
    clear f0 f1 f2 f3 f4 f5 f6 f7 r0 r1 r2 r3 r4 r5 r6 r7 hb
    generalize ((((((((w.setCell ⟨p, 0, none⟩ (.int .i64 r)).setCell ⟨p, 1, none⟩ (.int .i64 u)).setCell ⟨p, 2, none⟩ (.bool mb)).setCell ⟨p, 3, none⟩ (.int .i64 mi)).setCell ⟨p, 4, none⟩ (.string ms)).setCell ⟨p, 5, none⟩ (.bool xb)).setCell ⟨p, 6, none⟩ (.int .i64 xi)).setCell ⟨p, 7, none⟩ (.string xs)) = Y at *
    clear HK
    clear HV
    have HPY1 := fun w => Lib.hid (zput_any r u mb mi ms xb xi xs w (wf_bd (by have h0 := hZ.r0; have h1 := hZ.r1; simp only at h0 h1; omega)) (wf_bd (by have h0 := hZ.u0; have h1 := hZ.u1; simp only at h0 h1; omega)) (wf_bd hZ.mi) (wf_bd hZ.xi) (by have := hZ.ms; simp only at this; omega) (by have := hZ.xs; simp only at this; omega))
    have HPY2 := fun w => Lib.hid (rzput_any r u mb mi ms xb xi xs w (wf_bd (by have h0 := hZ.r0; have h1 := hZ.r1; simp only at h0 h1; omega)) (wf_bd (by have h0 := hZ.u0; have h1 := hZ.u1; simp only at h0 h1; omega)) (wf_bd hZ.mi) (wf_bd hZ.xi) (by have := hZ.ms; simp only at this; omega) (by have := hZ.xs; simp only at this; omega))
    have hlen := putZ_len hZ
    have hpos := putZ_pos ⟨r, u, ⟨mb, mi, ms⟩, ⟨xb, xi, xs⟩⟩
    generalize putZ ⟨r, u, ⟨mb, mi, ms⟩, ⟨xb, xi, xs⟩⟩ = P at *
    have hsz := str_size P
    generalize str P = T at *
    have HPL := fun w => Lib.hid (pick_at at' (T.size : Int) w HAT.out (by omega) (by omega))
    obtain ⟨p0, p1⟩ := pickN_bd at' (n := (T.size : Int)) (by omega)
    generalize pickN at' (T.size : Int) = q2 at *
    obtain ⟨j, rfl⟩ := Int.eq_ofNat_of_zero_le p0
    have hzs := HS.out
    have hcs : (T.extract 0 j ++ s).size ≤ 4611686018427387904 := by rw [ByteArray.size_append, ByteArray.size_extract]; omega
    have a1 : ∀ w, (Op.stringOp .add (T.extract 0 j) s).run Try.prog w = .ok (.string (T.extract 0 j ++ s)) w := fun w => run_string_add_sum w _ _ (by rw [ByteArray.size_extract]; omega)
    have HG3 := fun w => Lib.hid (zget_any (T.extract 0 j ++ s) 0 w hcs)
    have HG4 := fun w => Lib.hid (rzget_any (T.extract 0 j ++ s) 0 w hcs)
    have hge : ∃ g, getZ (T.extract 0 j ++ s) 0 = g := ⟨_, rfl⟩
    obtain ⟨⟨⟨dr, du, ⟨dmb, dmi, dms⟩, ⟨dxb, dxi, dxs⟩⟩, di, de⟩, hge⟩ := hge
    rw [hge] at HG3 HG4
    simp only [gZv, Zn.val] at HG3 HG4
    generalize T.extract 0 j ++ s = C at *
    have HJ := Lib.hid (show (0 : Int) ≤ (j : Int) ∧ (j : Int) ≤ (T.size : Int) ∧ j ≤ T.size from ⟨by omega, by omega, by omega⟩)
    clear hge hcs hzs p0 p1 hsz hlen hpos hZ HS HAT
    have hY := HVp.out
    have hz := HZ1.out.step HBp.out
    have hB := bel_trans HB1.out HBp.out
    clear HVp HZ1 HBp HB1
    have hk1 := HK1.out
    have hk2 := HK2.out
    go_wp2_with fail
    (with_reducible refine (HPK _).out.mono ?_); rintro e w' ⟨rfl, rfl⟩
    clear HPK
    go_wp2_with fail
    (with_reducible refine (HG1 _).out.mono ?_); rintro e w3 ⟨rfl, hb3⟩
    have hal := (Below.refl w3.heap.size w3).alloc (Nat.le_refl _) (.cells #[.int .i64 ar, .int .i64 au, .bool amb, .int .i64 ami, .string ams, .bool axb, .int .i64 axi, .string axs] 25)
    have ha := VarZ.new w3 ⟨ar, au, ⟨amb, ami, ams⟩, ⟨axb, axi, axs⟩⟩ 25
    replace hY := (hY.step hb3).step hal
    replace hz := (hz.step hb3).step hal
    replace hB := bel_trans (bel_trans hB hb3) hal
    clear hb3 hal HG1
    go_wp2_with fail
    (with_reducible refine (HG2 _).out.mono ?_); rintro e w3 ⟨rfl, hb3⟩
    have hal := (Below.refl w3.heap.size w3).alloc (Nat.le_refl _) (.cells #[.int .i64 ar, .int .i64 au, .bool amb, .int .i64 ami, .string ams, .bool axb, .int .i64 axi, .string axs] 25)
    have hb' := VarZ.new w3 ⟨ar, au, ⟨amb, ami, ams⟩, ⟨axb, axi, axs⟩⟩ 25
    replace hY := (hY.step hb3).step hal
    replace hz := (hz.step hb3).step hal
    replace ha := (ha.step hb3).step hal
    replace hB := bel_trans (bel_trans hB hb3) hal
    clear hb3 hal HG2
    clear hk1 hk2 HK1 HK2
    obtain ⟨z0, z1, z2, z3, z4, z5, z6, z7, _⟩ := id hY
    simp only at z0 z1 z2 z3 z4 z5 z6 z7
    go_wp2_with fail
    (with_reducible refine (HPY2 _).out.mono ?_); rintro e w3 ⟨rfl, hb3⟩
    clear z0 z1 z2 z3 z4 z5 z6 z7
    replace hY := hY.step hb3
    replace hz := hz.step hb3
    replace ha := ha.step hb3
    replace hb' := hb'.step hb3
    replace hB := bel_trans hB hb3
    clear hb3 HPY2
    go_wp2_with fail
    (with_reducible refine (HPL _).out.mono ?_); rintro e w' ⟨rfl, rfl⟩
    clear HPL
    obtain ⟨hj1, hj2, hj3⟩ := HJ.out
    go_wp2_with fail
    (with_reducible refine (HG3 _).out.mono ?_); rintro e w3 ⟨rfl, hb3⟩
    have hal := (Below.refl w3.heap.size w3).alloc (Nat.le_refl _) (.cells #[.int .i64 dr, .int .i64 du, .bool dmb, .int .i64 dmi, .string dms, .bool dxb, .int .i64 dxi, .string dxs] 25)
    have hd := VarZ.new w3 ⟨dr, du, ⟨dmb, dmi, dms⟩, ⟨dxb, dxi, dxs⟩⟩ 25
    replace hY := (hY.step hb3).step hal
    replace hz := (hz.step hb3).step hal
    replace ha := (ha.step hb3).step hal
    replace hb' := (hb'.step hb3).step hal
    replace hB := bel_trans (bel_trans hB hb3) hal
    clear hb3 hal HG3
    clear a1 hj1 hj2 hj3 HJ
    go_wp2_with fail
    (with_reducible refine (HG4 _).out.mono ?_); rintro e w3 ⟨rfl, hb3⟩
    have hal := (Below.refl w3.heap.size w3).alloc (Nat.le_refl _) (.cells #[.int .i64 dr, .int .i64 du, .bool dmb, .int .i64 dmi, .string dms, .bool dxb, .int .i64 dxi, .string dxs] 25)
    have ho := VarZ.new w3 ⟨dr, du, ⟨dmb, dmi, dms⟩, ⟨dxb, dxi, dxs⟩⟩ 25
    replace hY := (hY.step hb3).step hal
    replace hz := (hz.step hb3).step hal
    replace ha := (ha.step hb3).step hal
    replace hb' := (hb'.step hb3).step hal
    replace hd := (hd.step hb3).step hal
    replace hB := bel_trans (bel_trans hB hb3) hal
    clear hb3 hal HG4
    have HVU := fun w (hb : Below (w3.alloc (.cells #[.int .i64 dr, .int .i64 du, .bool dmb, .int .i64 dmi, .string dms, .bool dxb, .int .i64 dxi, .string dxs] 25)).heap.size (w3.alloc (.cells #[.int .i64 dr, .int .i64 du, .bool dmb, .int .i64 dmi, .string dms, .bool dxb, .int .i64 dxi, .string dxs] 25)) w) => Lib.hid (And.intro (hY.step hb) (And.intro (hz.step hb) (And.intro (ha.step hb) (And.intro (hb'.step hb) (And.intro (hd.step hb) (ho.step hb))))))
    have HBU := Lib.hid hB
    have HA := fun w => Lib.hid (awake14_any w)
    clear hY hz ha hb' hd ho hB
    go_wp2_with fail
    refine Go.Confl.wp_region_confl (by simp only [List.map_cons, List.map_nil]; rfl) (by kernel_rfl) (by kernel_rfl) ?_
    iterate 8
      first
      | (refine Go.Confl.chain_skip (Go.Confl.unwanted_is rfl rfl) ?_)
      | (first | apply Go.Confl.chain_is _ (Go.Confl.wanted_none rfl) | apply Go.Confl.chain_is _ (Go.Confl.wanted_is rfl rfl)
         · intro b w hr hb K hK
           simp [Go.Confl.readFacts, Go.Confl.tmpsOf, Go.Confl.writerOf, Go.Confl.Is, Op.operands, Call.operands, List.findIdx?, List.findIdx?.go] at hr
           obtain ⟨-, ⟨z0, z1, z2, z3, z4, z5, z6, z7, _⟩, -⟩ := (HVU _ hb).out
           simp only at z0 z1 z2 z3 z4 z5 z6 z7
           go_wp2_with (first
             | (go_at_call 14; (with_reducible refine (HA _).out.mono ?_); rintro e w' ⟨rfl, hb'⟩)
             | (go_at_call 25; (with_reducible refine (HP1 _).out.mono ?_); rintro e w' ⟨rfl, hb'⟩)
             | (go_at_call 24; (with_reducible refine (HP2 _).out.mono ?_); rintro e w' ⟨rfl, hb'⟩))
           try (simp only [hr]; go_wp2)
           exact hK _ _ rfl (by first | exact Below.refl _ _ | assumption))
      simp only [List.nil_append, List.cons_append]
    iterate 6
      first
      | (refine Go.Confl.chain_skip (Go.Confl.unwanted_is rfl rfl) ?_)
      | (first | apply Go.Confl.chain_is _ (Go.Confl.wanted_none rfl) | apply Go.Confl.chain_is _ (Go.Confl.wanted_is rfl rfl)
         · intro b w hr hb K hK
           simp [Go.Confl.readFacts, Go.Confl.tmpsOf, Go.Confl.writerOf, Go.Confl.Is, Op.operands, Call.operands, List.findIdx?, List.findIdx?.go] at hr
           obtain ⟨⟨z0, z1, z2, z3, z4, z5, z6, z7, _⟩, -⟩ := (HVU _ hb).out
           simp only at z0 z1 z2 z3 z4 z5 z6 z7
           go_wp2_with (first
             | (go_at_call 25; (with_reducible refine (HPY1 _).out.mono ?_); rintro e w' ⟨rfl, hb'⟩))
           try (simp only [hr]; go_wp2)
           exact hK _ _ rfl (by first | exact Below.refl _ _ | assumption))
      simp only [List.nil_append, List.cons_append]
    iterate 5
      first
      | (refine Go.Confl.chain_skip (Go.Confl.unwanted_is rfl rfl) ?_)
      | (first | apply Go.Confl.chain_is _ (Go.Confl.wanted_none rfl) | apply Go.Confl.chain_is _ (Go.Confl.wanted_is rfl rfl)
         · intro b w hr hb K hK
           simp [Go.Confl.readFacts, Go.Confl.tmpsOf, Go.Confl.writerOf, Go.Confl.Is, Op.operands, List.findIdx?, List.findIdx?.go] at hr
           obtain ⟨-, -, ⟨y0, y1, y2, y3, y4, y5, y6, y7, _⟩, ⟨z0, z1, z2, z3, z4, z5, z6, z7, _⟩, -⟩ := (HVU _ hb).out
           simp only at y0 y1 y2 y3 y4 y5 y6 y7 z0 z1 z2 z3 z4 z5 z6 z7
           go_wp2_with fail
           try (simp only [hr]; go_wp2)
           exact hK _ _ rfl (by first | exact Below.refl _ _ | assumption))
      simp only [List.nil_append, List.cons_append]
    iterate 11
      first
      | (refine Go.Confl.chain_skip (Go.Confl.unwanted_is rfl rfl) ?_)
      | (first | apply Go.Confl.chain_is _ (Go.Confl.wanted_none rfl) | apply Go.Confl.chain_is _ (Go.Confl.wanted_is rfl rfl)
         · intro b w hr hb K hK
           simp [Go.Confl.readFacts, Go.Confl.tmpsOf, Go.Confl.writerOf, Go.Confl.Is, Op.operands, List.findIdx?, List.findIdx?.go] at hr
           go_wp2_with fail
           try (simp only [hr]; go_wp2)
           exact hK _ _ rfl (by first | exact Below.refl _ _ | assumption))
      simp only [List.nil_append, List.cons_append]
    iterate 4
      first
      | (refine Go.Confl.chain_skip (Go.Confl.unwanted_is rfl rfl) ?_)
      | (first | apply Go.Confl.chain_is _ (Go.Confl.wanted_none rfl) | apply Go.Confl.chain_is _ (Go.Confl.wanted_is rfl rfl)
         · intro b w hr hb K hK
           simp [Go.Confl.readFacts, Go.Confl.tmpsOf, Go.Confl.writerOf, Go.Confl.Is, Op.operands, List.findIdx?, List.findIdx?.go] at hr
           obtain ⟨-, -, -, -, ⟨y0, y1, y2, y3, y4, y5, y6, y7, _⟩, ⟨z0, z1, z2, z3, z4, z5, z6, z7, _⟩⟩ := (HVU _ hb).out
           simp only at y0 y1 y2 y3 y4 y5 y6 y7 z0 z1 z2 z3 z4 z5 z6 z7
           go_wp2_with fail
           try (simp only [hr]; go_wp2)
           exact hK _ _ rfl (by first | exact Below.refl _ _ | assumption))
      simp only [List.nil_append, List.cons_append]
    iterate 11
      first
      | (refine Go.Confl.chain_skip (Go.Confl.unwanted_is rfl rfl) ?_)
      | (first | apply Go.Confl.chain_is _ (Go.Confl.wanted_none rfl) | apply Go.Confl.chain_is _ (Go.Confl.wanted_is rfl rfl)
         · intro b w hr hb K hK
           simp [Go.Confl.readFacts, Go.Confl.tmpsOf, Go.Confl.writerOf, Go.Confl.Is, Op.operands, List.findIdx?, List.findIdx?.go] at hr
           go_wp2_with fail
           try (simp only [hr]; go_wp2)
           exact hK _ _ rfl (by first | exact Below.refl _ _ | assumption))
      simp only [List.nil_append, List.cons_append]
    intro us w hp hb
    simp [Go.Confl.allPosts, Go.Confl.Is] at hp
    simp only [Go.Confl.putsFrom, hp, Act.put, List.setIfInBounds_toArray, List.set_cons_zero, List.set_cons_succ]
    go_wp2
    go_ret
    exact RetB.mk rfl (bel_trans HBU.out hb)
theorem zonePuts_holds : Rows.ZonePutsSaid :=
  OpenClaim.holds_of_wide 8 Try.f8 rfl rfl rfl rfl rfl rfl rfl ⟨rfl, rfl, rfl, rfl, rfl⟩ rfl rfl rfl rfl rfl (by kernel_rfl) Try.func8 (by kernel_rfl)
    (of_decide_eq_true (by kernel_rfl)) (by unfold Func.isWrapper; first | (rw [if_pos (by decide +kernel)]; kernel_rfl) | (rw [if_neg (by decide +kernel)]; exact ⟨rfl, rfl⟩))
    (fun os started H enc _ => zonePuts_lifted os started H enc)
end Go.Proofs.Ythohmngckpjlbaa
