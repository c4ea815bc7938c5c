/- Statements of layer 14: ZoneJoins. -/
import Derived.Test.YthohmngckpjlbaaZoK
import Derived.Test.YthohmngckpjlbaaAppL
import Derived.Deep.CutRange
namespace Go.ZN
open Go.RowKit Go.VB Go.VS Go.VL Go.CK
/-- Join's sums and choices over a and b are c's. -/
structure JOK (ty : Int) (a b c : Zn) : Prop where
  j1 : IntKind.i64.wrap (a.rows + b.rows) = c.rows
  j2 : IntKind.i64.wrap (a.nulls + b.nulls) = c.nulls
  j3 : pck ty (-1) a.mn b.mn = c.mn
  j4 : pck ty 1 a.mx b.mx = c.mx
theorem jok_of {ty : Int} {a b c : Zn} (h : joi ty a b = c) (h1 : 0 ≤ a.rows ∧ a.rows ≤ 80 ∧ 0 ≤ b.rows ∧ b.rows ≤ 80) (h2 : 0 ≤ a.nulls ∧ a.nulls ≤ 80 ∧ 0 ≤ b.nulls ∧ b.nulls ≤ 80) : JOK ty a b c := by
  subst h
  exact ⟨IntWalk.i64_in _ ⟨by omega, by omega⟩, IntWalk.i64_in _ ⟨by omega, by omega⟩, rfl, rfl⟩
theorem zof_bd (ty : Int) {l : List Vl} (h : l.length ≤ 80) : (0 ≤ (zof ty l).rows ∧ (zof ty l).rows ≤ 80) ∧ 0 ≤ (zof ty l).nulls ∧ (zof ty l).nulls ≤ 80 := by
  have hn := stz_le ty l
  exact ⟨⟨Int.natCast_nonneg _, (by show (l.length : Int) ≤ 80; omega)⟩, Int.natCast_nonneg _, (by show ((stz ty l).1 : Int) ≤ 80; omega)⟩
theorem VarZ.grown {w w' : World} {b : Nat} {z : Zn} {row : Option Nat} (h : VarZ w b z) (hg : w.grownBy w' row) (hne : some b ≠ row) : VarZ w' b z := by
  have hb := hg.block b h.lt hne
  have e : ∀ i, w'.cell? ⟨b, i, none⟩ = w.cell? ⟨b, i, none⟩ := fun i => World.cell?_of_block hb
  exact ⟨(e 0).trans h.c0, (e 1).trans h.c1, (e 2).trans h.c2, (e 3).trans h.c3, (e 4).trans h.c4, (e 5).trans h.c5, (e 6).trans h.c6, (e 7).trans h.c7, fun i hi => (World.frozen?_of_block (a := ⟨b, i, none⟩) hb).trans (h.fr i hi)⟩
end Go.ZN
namespace Go.Proofs.Ythohmngckpjlbaa
open Go.RowKit Go.VB Go.VL Go.VS Go.ZN Go.CK Go.ChangeShapes Go.WideShapes Go.ChangeAt
set_option linter.constructorNameAsVariable false
theorem zjoin_is {ty : Int} {a b c : Zn} (h : JOK ty a b c) (w : World) : Calls Try.prog 17 #[.int .i64 ty, a.val, b.val] w (RetB c.val w) := by
  obtain ⟨ar, au, ⟨amb, ami, ams⟩, ⟨axb, axi, axs⟩⟩ := a
  obtain ⟨br, bu, ⟨bmb, bmi, bms⟩, ⟨bxb, bxi, bxs⟩⟩ := b
  obtain ⟨cr, cu, cmn, cmx⟩ := c
  have h1 := h.j1; have h2 := h.j2; have h3 := h.j3; have h4 := h.j4
  simp only at h1 h2 h3 h4
  have := zjoin_any ty ar au amb ami ams axb axi axs br bu bmb bmi bms bxb bxi bxs cr cu w h1 h2
  rw [h3, h4] at this
  exact this
set_option maxRecDepth 100000 in
set_option maxHeartbeats 4000000 in
theorem zoneJoins_lifted (os : Os) (started : os.Started) (H : Type) (enc : TypeId × Value → H) :
    ReturnsInHanded {} Try.checked os 5 .any (Rows.zoneJoinsSpec.pre6 enc Try.prog Try.f5 Rows.zoneJoinsRow.domain false) (Rows.zoneJoinsSpec.post enc Try.prog Try.f5 false true false false) := by
  refine law_lifted (C := Try.checked) (tb := 4) started Try.own Try.laidOut (by kernel_rfl) Try.func5
    (ChangeSpec.witness6 (enc := enc) (C := Try.checked) false ⟨#[], #[.int .i64 0, .slice none 0 0, .slice none 0 0], []⟩ 8 (by kernel_rfl) (by kernel_rfl) (by kernel_rfl) (by kernel_rfl))
    rfl rfl Try.underlying4 (by kernel_rfl) (fun ds h => ?_) (fun W base args ds p hval0 hA0 hsz0 hlt => ?_)
  · have h' : ds.length = Try.f5.params.toList.length := h
    rw [Try.params5] at h'
    match ds, h' with
    | [_, _, _], _ => rfl
  · have hval : ∀ (j : Nat) t v, Try.f5.params[j]? = some t → args[j]? = some v → Value.okWide Try.prog W .any base t v := hval0
    have hA : DataW.TrodAll enc Try.prog W 0 (fun _ => true) true Try.f5.params.toList args.toList ds p := hA0
    have hsz : (DataW.weightsEach Try.prog Try.f5.params.toList ds).all (· ≤ reachBytes) = true := hsz0
    rw [Try.params5] at hA hval hsz
    clear hA0 hval0 hsz0
    obtain ⟨v0, vs0, d0, ds0, p0, q0, hargs, rfl, rfl, h0, r0⟩ := trodAll_cons hA
    obtain ⟨v1, vs1, d1, ds1, p1, q1, rfl, rfl, rfl, h1, r1⟩ := trodAll_cons r0
    obtain ⟨v2, vs2, d2, ds2, p2, q2, rfl, rfl, rfl, h2, r2⟩ := trodAll_cons r1
    obtain ⟨rfl, rfl, rfl⟩ := trodAll_nil r2
    obtain rfl : args = #[v0, v1, v2] := by cases args; simp_all
    obtain ⟨t, rfl, rfl, rfl, wt⟩ := open_int Try.underlying3 (hval 0 3 v0 rfl rfl) h0
    obtain ⟨zl, rl, wl, bl⟩ := open_rdI Try.underlying30 Try.underlying3 (by kernel_rfl) (hval 1 30 v1 rfl rfl) h1 hsz (j := 1) rfl rfl
    obtain ⟨zm, rm, wm, bm⟩ := open_rdI Try.underlying30 Try.underlying3 (by kernel_rfl) (hval 2 30 v2 rfl rfl) h2 hsz (j := 2) rfl rfl
    change Calls Try.prog 5 #[.int .i64 t, v1, v2] W (RetB (.bool true) W)
    clear bl bm
    have HCOL := fun w => Lib.hid (column_any t true w wt)
    have hty := pick_ty t
    have hT := okT_pick t
    generalize 1 + pickN t 5 = ty at *
    have HKV1 := fun w r => Lib.hid (kvals_any w v1 zl ⟨#[120]⟩ ty 0 true r wl hty)
    have HKV2 := fun w r => Lib.hid (kvals_any w v2 zm ⟨#[120]⟩ ty 0 true r wm hty)
    clear wt
    go_enter Try.func5, Try.ntmps5
    go_wp2_with fail
    (with_reducible refine (HCOL _).out.mono ?_); rintro e w1 ⟨rfl, hb1⟩
    have hba := (Below.refl w1.heap.size w1).alloc (Nat.le_refl _) (.cells #[.string ⟨#[120]⟩, .int .i64 ty, .int .i64 0, .bool true] 32)
    have hc1 := Var4.new w1 (.string ⟨#[120]⟩) (.int .i64 ty) (.int .i64 0) (.bool true) 32
    have hl1 := (rl.step hb1).step hba
    have hm1 := (rm.step hb1).step hba
    have HB1 := Lib.hid (bel_trans hb1 hba)
    clear hb1 hba rl wl rm wm HCOL hty
    go_wp2_with fail
    generalize hg : w1.heap.size = g at *
    generalize w1.alloc (.cells #[.string ⟨#[120]⟩, .int .i64 ty, .int .i64 0, .bool true] 32) = X at *
    clear hg
    have HV := Lib.hid (show ∀ w, Below X.heap.size X w → Var4 w g (.string ⟨#[120]⟩) (.int .i64 ty) (.int .i64 0) (.bool true) from fun w hb => hc1.step hb)
    have HK1 := fun w (hb : Below X.heap.size X w) => Lib.hid (HKV1 w (hl1.step hb)).out
    have HK2 := fun w (hb : Below X.heap.size X w) => Lib.hid (HKV2 w (hm1.step hb)).out
    clear HKV1 HKV2 hl1 hm1 hc1
    refine Go.Confl.wp_region_confl (by simp only [List.map_cons, List.map_nil]; rfl) (by kernel_rfl) (by kernel_rfl) ?_
    iterate 2
      first
      | (refine Go.Confl.chain_skip (Go.Confl.unwanted_is rfl rfl) ?_)
      | (first | apply Go.Confl.chain_is _ (Go.Confl.wanted_none rfl) | apply Go.Confl.chain_is _ (Go.Confl.wanted_is rfl rfl)
         · intro b w hr hb K hK
           simp [Go.Confl.readFacts, Go.Confl.tmpsOf, Go.Confl.writerOf, Op.operands, List.findIdx?, List.findIdx?.go] at hr
           obtain ⟨k0, k1, k2, k3⟩ := HV.out _ hb
           go_wp2_with fail
           try (simp only [hr]; go_wp2)
           exact hK _ _ rfl (by first | exact Below.refl _ _ | assumption))
      simp only [List.nil_append, List.cons_append]
    apply Go.Confl.chain_any (KvQ ty true) (KvQ.stable ty true) (Go.Confl.wanted_none rfl)
    · intro f w hr hb K hK
      simp [Go.Confl.readFacts, Go.Confl.tmpsOf, Go.Confl.writerOf, Go.Confl.Is, Op.operands, Call.operands, List.findIdx?, List.findIdx?.go] at hr
      go_wp2_with (go_at_call 13; (with_reducible refine (HK1 _ hb).out.mono ?_); rintro e w' ⟨vx, lx, rfl, hown, hlx, hcx, hbx, hb'⟩)
      exact hK _ _ ⟨lx, hown.read, hlx, hcx, hbx⟩ hb'
    simp only [List.nil_append, List.cons_append]
    iterate 2
      first
      | (refine Go.Confl.chain_skip (Go.Confl.unwanted_is rfl rfl) ?_)
      | (first | apply Go.Confl.chain_is _ (Go.Confl.wanted_none rfl) | apply Go.Confl.chain_is _ (Go.Confl.wanted_is rfl rfl)
         · intro b w hr hb K hK
           simp [Go.Confl.readFacts, Go.Confl.tmpsOf, Go.Confl.writerOf, Op.operands, List.findIdx?, List.findIdx?.go] at hr
           obtain ⟨k0, k1, k2, k3⟩ := HV.out _ hb
           go_wp2_with fail
           try (simp only [hr]; go_wp2)
           exact hK _ _ rfl (by first | exact Below.refl _ _ | assumption))
      simp only [List.nil_append, List.cons_append]
    apply Go.Confl.chain_any (KvQ ty true) (KvQ.stable ty true) (Go.Confl.wanted_none rfl)
    · intro f w hr hb K hK
      simp [Go.Confl.readFacts, Go.Confl.tmpsOf, Go.Confl.writerOf, Go.Confl.Is, Op.operands, Call.operands, List.findIdx?, List.findIdx?.go] at hr
      go_wp2_with (go_at_call 13; (with_reducible refine (HK2 _ hb).out.mono ?_); rintro e w' ⟨vx, lx, rfl, hown, hlx, hcx, hbx, hb'⟩)
      exact hK _ _ ⟨lx, hown.read, hlx, hcx, hbx⟩ hb'
    simp only [List.nil_append, List.cons_append]
    apply Go.Confl.chain_any (KvQ ty true) (KvQ.stable ty true) (Go.Confl.wanted_none rfl)
    · intro f w hr hb K hK
      simp [Go.Confl.readFacts, Go.Confl.tmpsOf, Go.Confl.writerOf, Op.operands, List.findIdx?, List.findIdx?.go] at hr
      go_wp2_with fail
      exact hK _ _ hr (Below.refl _ _)
    simp only [List.nil_append, List.cons_append]
    apply Go.Confl.chain_any (KvQ ty true) (KvQ.stable ty true) (Go.Confl.wanted_none rfl)
    · intro f w hr hb K hK
      simp [Go.Confl.readFacts, Go.Confl.tmpsOf, Go.Confl.writerOf, Op.operands, List.findIdx?, List.findIdx?.go] at hr
      go_wp2_with fail
      exact hK _ _ hr (Below.refl _ _)
    simp only [List.nil_append, List.cons_append]
    intro us w hp hb
    simp [Go.Confl.allPosts, Go.Confl.Is] at hp
    simp only [Go.Confl.putsFrom, hp, Act.put, List.setIfInBounds_toArray, List.set_cons_zero, List.set_cons_succ]
    obtain ⟨-, -, -, -, -, -, ⟨lx, hx, gx⟩, ⟨ly, hy, gy⟩⟩ := hp
    simp only [Nat.zero_add, Nat.reduceAdd]
    generalize us 6 = vx at hx ⊢
    generalize us 7 = vy at hy ⊢
    generalize us 2 = q2
    generalize us 5 = q5
    generalize us 0 = q0
    generalize us 3 = q3
    generalize w = X2 at *
    clear us HK1 HK2
    have bx := zof_bd ty (show lx.length ≤ 80 by have := gx.len; omega)
    have by' := zof_bd ty (show ly.length ≤ 80 by have := gy.len; omega)
    have bz := zof_bd ty (show (lx ++ ly).length ≤ 80 by have := gx.len; have := gy.len; rw [List.length_append]; omega)
    have J1 := jok_of (joi_app hT gx.ok gy.ok) ⟨bx.1.1, bx.1.2, by'.1.1, by'.1.2⟩ ⟨bx.2.1, bx.2.2, by'.2.1, by'.2.2⟩
    have J2 := jok_of (joi_swap hT gx.ok gy.ok) ⟨by'.1.1, by'.1.2, bx.1.1, bx.1.2⟩ ⟨by'.2.1, by'.2.2, bx.2.1, bx.2.2⟩
    have b0 := zof_bd ty (l := []) (Nat.zero_le _)
    have J3 := jok_of (joi_nil ty (lx ++ ly)) ⟨bz.1.1, bz.1.2, b0.1.1, b0.1.2⟩ ⟨bz.2.1, bz.2.2, b0.2.1, b0.2.2⟩
    have HLN := Lib.hid (show ([] : List Vl).length + lx.length ≤ 1000000 by have := gx.len; simp only [List.length_nil]; omega)
    have HLN2 := Lib.hid (show lx.length + ly.length ≤ 1000000 by have := gx.len; have := gy.len; omega)
    clear bx by' bz b0 gx gy hT
    have H1 := fun w (hw : Below X2.heap.size X2 w) => Lib.hid (zof_any ty vx lx w (hx.step hw))
    have H2 := fun w (hw : Below X2.heap.size X2 w) => Lib.hid (zof_any ty vy ly w (hy.step hw))
    have H3 := fun v w (h : RdL w w.heap.size v (lx ++ ly)) => Lib.hid (zof_any ty v (lx ++ ly) w h)
    have H4 := fun w => Lib.hid (rzof_any ty (.slice none 0 0) [] w (RdL.nil _ _))
    have H5 := fun w => Lib.hid (zjoin_is J1 w)
    have H6 := fun w => Lib.hid (zjoin_is J2 w)
    have H7 := fun w => Lib.hid (zjoin_is J3 w)
    rw [show zof ty [] = ⟨0, 0, nulV, nulV⟩ from rfl] at H4 H7
    clear J1 J2 J3
    generalize zof ty lx = Z1 at *
    generalize zof ty ly = Z2 at *
    generalize zof ty (lx ++ ly) = Z3 at *
    obtain ⟨r1, u1, ⟨mb1, mi1, ms1⟩, ⟨xb1, xi1, xs1⟩⟩ := Z1
    obtain ⟨r2, u2, ⟨mb2, mi2, ms2⟩, ⟨xb2, xi2, xs2⟩⟩ := Z2
    obtain ⟨r3, u3, ⟨mb3, mi3, ms3⟩, ⟨xb3, xi3, xs3⟩⟩ := Z3
    simp only [Zn.val, nulV] at H1 H2 H3 H4 H5 H6 H7
    have HB2 := Lib.hid (bel_trans HB1.out hb)
    have HV2 := fun w (hw : Below X2.heap.size X2 w) => Lib.hid (HV.out _ (bel_trans hb hw))
    clear HV HB1 hb
    go_wp2_with fail
    refine Go.ConflA.wp_region_tail_at 10 (by simp only [List.take_succ_cons, List.take_zero, List.map_cons, List.map_nil]; rfl) (by kernel_rfl) (by kernel_rfl) (by kernel_rfl) (by kernel_rfl) (by kernel_rfl) (Nat.zero_lt_succ _) (by kernel_rfl) ?_
    simp only [List.take_succ_cons, List.take_zero, List.drop_succ_cons, List.drop_zero]
    iterate 8
      first
      | (refine Go.ConflA.chainA_skip (Go.Confl.unwanted_is rfl rfl) ?_)
      | (first | apply Go.ConflA.chainA_is _ (Go.Confl.wanted_none rfl) | apply Go.ConflA.chainA_is _ (Go.Confl.wanted_is rfl rfl)
         · intro b w hr hb K hK
           simp [Go.Confl.readFacts, Go.Confl.tmpsOf, Go.Confl.writerOf, Go.Confl.Is, Op.operands, Call.operands, List.findIdx?, List.findIdx?.go] at hr
           obtain ⟨k0, k1, k2, k3⟩ := (HV2 _ hb).out
           go_wp2_with (first
             | (go_at_call 10; (with_reducible refine (H1 _ hb).out.mono ?_); rintro e w' ⟨rfl, hb'⟩)
             | (go_at_call 10; (with_reducible refine (H2 _ hb).out.mono ?_); rintro e w' ⟨rfl, hb'⟩))
           try (simp only [hr]; go_wp2)
           exact hK _ _ rfl (by first | exact Below.refl _ _ | assumption))
      simp only [List.nil_append, List.cons_append]
    apply Go.ConflA.chainA_any (NewZ X2 zn0) (NewZ.stable X2 zn0) (Go.Confl.wanted_none rfl)
    · intro f w hr hb K hK
      go_wp2_with fail
      exact hK _ _ ⟨_, rfl, hb.size, VarZ.new w zn0 25⟩ ((Below.refl _ _).alloc (Nat.le_refl _) _)
    simp only [List.nil_append, List.cons_append]
    apply Go.ConflA.chainA_any (NewZ X2 zn0) (NewZ.stable X2 zn0) (Go.Confl.wanted_none rfl)
    · intro f w hr hb K hK
      go_wp2_with fail
      exact hK _ _ ⟨_, rfl, hb.size, VarZ.new w zn0 25⟩ ((Below.refl _ _).alloc (Nat.le_refl _) _)
    simp only [List.nil_append, List.cons_append]
    intro us w hp hdist hb
    simp [Go.Confl.allPosts, Go.Confl.Is] at hp
    simp only [Go.Confl.putsFrom, Act.put, List.setIfInBounds_toArray, List.set_cons_zero, List.set_cons_succ]
    change wpList _ _ _ _ _ _
    obtain ⟨e0, e1, e2, e3, e4, e5, e6, e7, ⟨p, e8, lp, Vp⟩, ⟨q, e9, lq, Vq⟩⟩ := hp
    have hpq : p ≠ q := dist_z (by have h := hdist 8 9 _ _ rfl rfl (by decide) rfl rfl; rw [e8, e9] at h; exact h)
    simp only [e0, e1, e2, e3, e4, e5, e6, e7, e8, e9]
    clear e0 e1 e2 e3 e4 e5 e6 e7 e8 e9 hdist H1 H2
    have hVp1 : VarZ ((((((((w.setCell ⟨p, 0, none⟩ (.int .i64 r1)).setCell ⟨p, 1, none⟩ (.int .i64 u1)).setCell ⟨p, 2, none⟩ (.bool mb1)).setCell ⟨p, 3, none⟩ (.int .i64 mi1)).setCell ⟨p, 4, none⟩ (.string ms1)).setCell ⟨p, 5, none⟩ (.bool xb1)).setCell ⟨p, 6, none⟩ (.int .i64 xi1)).setCell ⟨p, 7, none⟩ (.string xs1)) p ⟨r1, u1, ⟨mb1, mi1, ms1⟩, ⟨xb1, xi1, xs1⟩⟩ := Vp.put ⟨r1, u1, ⟨mb1, mi1, ms1⟩, ⟨xb1, xi1, xs1⟩⟩
    have hVq1 : VarZ ((((((((w.setCell ⟨p, 0, none⟩ (.int .i64 r1)).setCell ⟨p, 1, none⟩ (.int .i64 u1)).setCell ⟨p, 2, none⟩ (.bool mb1)).setCell ⟨p, 3, none⟩ (.int .i64 mi1)).setCell ⟨p, 4, none⟩ (.string ms1)).setCell ⟨p, 5, none⟩ (.bool xb1)).setCell ⟨p, 6, none⟩ (.int .i64 xi1)).setCell ⟨p, 7, none⟩ (.string xs1)) q zn0 := Vq.oput (z' := ⟨r1, u1, ⟨mb1, mi1, ms1⟩, ⟨xb1, xi1, xs1⟩⟩) (fun e => hpq e.symm)
    have hBq1 : Below X2.heap.size X2 ((((((((w.setCell ⟨p, 0, none⟩ (.int .i64 r1)).setCell ⟨p, 1, none⟩ (.int .i64 u1)).setCell ⟨p, 2, none⟩ (.bool mb1)).setCell ⟨p, 3, none⟩ (.int .i64 mi1)).setCell ⟨p, 4, none⟩ (.string ms1)).setCell ⟨p, 5, none⟩ (.bool xb1)).setCell ⟨p, 6, none⟩ (.int .i64 xi1)).setCell ⟨p, 7, none⟩ (.string xs1)) := put8_below (z := ⟨r1, u1, ⟨mb1, mi1, ms1⟩, ⟨xb1, xi1, xs1⟩⟩) hb lp
    generalize hW1 : ((((((((w.setCell ⟨p, 0, none⟩ (.int .i64 r1)).setCell ⟨p, 1, none⟩ (.int .i64 u1)).setCell ⟨p, 2, none⟩ (.bool mb1)).setCell ⟨p, 3, none⟩ (.int .i64 mi1)).setCell ⟨p, 4, none⟩ (.string ms1)).setCell ⟨p, 5, none⟩ (.bool xb1)).setCell ⟨p, 6, none⟩ (.int .i64 xi1)).setCell ⟨p, 7, none⟩ (.string xs1)) = W1 at hVp1 hVq1 hBq1
    have hVp : VarZ ((((((((W1.setCell ⟨q, 0, none⟩ (.int .i64 r2)).setCell ⟨q, 1, none⟩ (.int .i64 u2)).setCell ⟨q, 2, none⟩ (.bool mb2)).setCell ⟨q, 3, none⟩ (.int .i64 mi2)).setCell ⟨q, 4, none⟩ (.string ms2)).setCell ⟨q, 5, none⟩ (.bool xb2)).setCell ⟨q, 6, none⟩ (.int .i64 xi2)).setCell ⟨q, 7, none⟩ (.string xs2)) p ⟨r1, u1, ⟨mb1, mi1, ms1⟩, ⟨xb1, xi1, xs1⟩⟩ := hVp1.oput (z' := ⟨r2, u2, ⟨mb2, mi2, ms2⟩, ⟨xb2, xi2, xs2⟩⟩) hpq
    have hVq : VarZ ((((((((W1.setCell ⟨q, 0, none⟩ (.int .i64 r2)).setCell ⟨q, 1, none⟩ (.int .i64 u2)).setCell ⟨q, 2, none⟩ (.bool mb2)).setCell ⟨q, 3, none⟩ (.int .i64 mi2)).setCell ⟨q, 4, none⟩ (.string ms2)).setCell ⟨q, 5, none⟩ (.bool xb2)).setCell ⟨q, 6, none⟩ (.int .i64 xi2)).setCell ⟨q, 7, none⟩ (.string xs2)) q ⟨r2, u2, ⟨mb2, mi2, ms2⟩, ⟨xb2, xi2, xs2⟩⟩ := hVq1.put ⟨r2, u2, ⟨mb2, mi2, ms2⟩, ⟨xb2, xi2, xs2⟩⟩
    have hBq : Below X2.heap.size X2 ((((((((W1.setCell ⟨q, 0, none⟩ (.int .i64 r2)).setCell ⟨q, 1, none⟩ (.int .i64 u2)).setCell ⟨q, 2, none⟩ (.bool mb2)).setCell ⟨q, 3, none⟩ (.int .i64 mi2)).setCell ⟨q, 4, none⟩ (.string ms2)).setCell ⟨q, 5, none⟩ (.bool xb2)).setCell ⟨q, 6, none⟩ (.int .i64 xi2)).setCell ⟨q, 7, none⟩ (.string xs2)) := put8_below (z := ⟨r2, u2, ⟨mb2, mi2, ms2⟩, ⟨xb2, xi2, xs2⟩⟩) hBq1 lq
    clear hVp1 hVq1 hBq1
    subst hW1
    have HVp := Lib.hid hVp
    have HVq := Lib.hid hVq
    have HBq := Lib.hid hBq
    clear hVp hVq hBq hb
    obtain ⟨f0, f1, f2, f3, f4, f5, f6, f7⟩ := Vp.frz
    obtain ⟨a0, a1, a2, a3, a4, a5, a6, a7, _⟩ := Vp
    obtain ⟨g0, g1, g2, g3, g4, g5, g6, g7⟩ := Vq.frz
    obtain ⟨b0, b1, b2, b3, b4, b5, b6, b7, _⟩ := Vq
    go_upto_region 4 with fail
    clear f0 f1 f2 f3 f4 f5 f6 f7 a0 a1 a2 a3 a4 a5 a6 a7 g0 g1 g2 g3 g4 g5 g6 g7 b0 b1 b2 b3 b4 b5 b6 b7
    generalize ((((((((((((((((w.setCell ⟨p, 0, none⟩ (.int .i64 r1)).setCell ⟨p, 1, none⟩ (.int .i64 u1)).setCell ⟨p, 2, none⟩ (.bool mb1)).setCell ⟨p, 3, none⟩ (.int .i64 mi1)).setCell ⟨p, 4, none⟩ (.string ms1)).setCell ⟨p, 5, none⟩ (.bool xb1)).setCell ⟨p, 6, none⟩ (.int .i64 xi1)).setCell ⟨p, 7, none⟩ (.string xs1)).setCell ⟨q, 0, none⟩ (.int .i64 r2)).setCell ⟨q, 1, none⟩ (.int .i64 u2)).setCell ⟨q, 2, none⟩ (.bool mb2)).setCell ⟨q, 3, none⟩ (.int .i64 mi2)).setCell ⟨q, 4, none⟩ (.string ms2)).setCell ⟨q, 5, none⟩ (.bool xb2)).setCell ⟨q, 6, none⟩ (.int .i64 xi2)).setCell ⟨q, 7, none⟩ (.string xs2)) = Y at *
    have hxY := hx.step HBq.out
    have hyY := hy.step HBq.out
    have HXV := Lib.hid (show ∀ w, Below Y.heap.size Y w → RdL w Y.heap.size vx lx from fun w hw => hxY.below hw)
    have HYV := Lib.hid (show ∀ w, Below Y.heap.size Y w → RdL w Y.heap.size vy ly from fun w hw => hyY.below hw)
    have HV3 := Lib.hid (show ∀ w, Below Y.heap.size Y w → Var4 w g (.string ⟨#[120]⟩) (.int .i64 ty) (.int .i64 0) (.bool true) from fun w hw => (HV2 _ (bel_trans HBq.out hw)).out)
    have HZ3 := fun w (hw : Below Y.heap.size Y w) => Lib.hid (And.intro (HVp.out.step hw) (HVq.out.step hw))
    have HB3 := Lib.hid (bel_trans HB2.out HBq.out)
    clear hx hy hxY hyY HV2 HB2 HVp HVq HBq
    go_cut [12] from 29 to 35 (fun pz w' => ∃ b, pz = .pointer (some ⟨b, 0, none⟩) ∧ VarZ w' b ⟨r3, u3, ⟨mb3, mi3, ms3⟩, ⟨xb3, xi3, xs3⟩⟩ ∧ Below Y.heap.size Y w')
    case first =>
      have HBK := Lib.hid (show Below Y.heap.size Y Y.drew from (Below.refl _ _).drew)
      have HBK2 := Lib.hid (show Below Y.heap.size Y (Y.alloc (.cells #[.int .i64 0, .int .i64 0, .bool false, .int .i64 0, .string ⟨#[]⟩, .bool false, .int .i64 0, .string ⟨#[]⟩] 25)).drew from ((Below.refl _ _).alloc (Nat.le_refl _) _).drew)
      have HSA := Lib.hid (show Y.heap.size + 1 ≤ (Y.alloc (.cells #[.int .i64 0, .int .i64 0, .bool false, .int .i64 0, .string ⟨#[]⟩, .bool false, .int .i64 0, .string ⟨#[]⟩] 25)).drew.heap.size from by simp)
      have HZA := Lib.hid (show VarZ (Y.alloc (.cells #[.int .i64 0, .int .i64 0, .bool false, .int .i64 0, .string ⟨#[]⟩, .bool false, .int .i64 0, .string ⟨#[]⟩] 25)).drew Y.heap.size zn0 from (VarZ.new Y zn0 25).step (Below.refl _ _).drew)
      obtain ⟨k0, k1, k2, k3⟩ := HV3.out _ (Below.refl _ _)
      have hgY : g < Y.heap.size := Var4.lt ⟨k0, k1, k2, k3⟩
      go_wp2_with fail
      go_region_law (first
        | (show (if Region.wanted ⟨some 32, _, _, _, _, _⟩ _ = true then _ else _); refine step_appL rfl (.const (.slice none 0 0)) (.tmp 31) 27 rfl Y.heap.size 23 Try.underlying27 Try.infVal (.slice none 0 0) [] rfl (OwnL.nil _ _ _) Y.heap.size vx lx rfl (HXV.out _ HBK.out) HLN.out (Nat.le_refl _) ?_; intro v3 w3 hown3 hb3 _; have HO3 : Hid (OwnL 23 w3 Y.heap.size v3 lx) := Lib.hid hown3; have HB3a := Lib.hid (HBK.out.trans hb3); have HS3 := Lib.hid (show Y.heap.size ≤ w3.heap.size from hb3.size); have HO3A : Hid (OwnL 23 (w3.alloc (.cells #[.int .i64 0, .int .i64 0, .bool false, .int .i64 0, .string ⟨#[]⟩, .bool false, .int .i64 0, .string ⟨#[]⟩] 25)) Y.heap.size v3 lx) := Lib.hid (hown3.alloc _); have HB3A := Lib.hid ((HBK.out.trans hb3).alloc hb3.size (.cells #[.int .i64 0, .int .i64 0, .bool false, .int .i64 0, .string ⟨#[]⟩, .bool false, .int .i64 0, .string ⟨#[]⟩] 25)); have HS3A := Lib.hid (show Y.heap.size ≤ (w3.alloc (.cells #[.int .i64 0, .int .i64 0, .bool false, .int .i64 0, .string ⟨#[]⟩, .bool false, .int .i64 0, .string ⟨#[]⟩] 25)).heap.size from Nat.le_trans hb3.size (by simp)); have HZ3A := Lib.hid (VarZ.new w3 zn0 25); have HL3 := Lib.hid (fun b h => (OwnL.lt hown3 b h).2); clear hown3 hb3; obtain ⟨k0, k1, k2, k3⟩ := HV3.out _ HB3a.out; have hg3 : g < w3.heap.size := Var4.lt ⟨k0, k1, k2, k3⟩)
        | (show (if Region.wanted ⟨some 32, _, _, _, _, _⟩ _ = true then _ else _); refine step_appL rfl (.const (.slice none 0 0)) (.tmp 31) 27 rfl (Y.heap.size + 1) 23 Try.underlying27 Try.infVal (.slice none 0 0) [] rfl (OwnL.nil _ _ _) Y.heap.size vx lx rfl (HXV.out _ HBK2.out) HLN.out HSA.out ?_; intro v3 w3 hown3 hb3 _; have HO3D : Hid (OwnL 23 w3 (Y.heap.size + 1) v3 lx) := Lib.hid hown3; have HB3D := Lib.hid (HBK2.out.trans (hb3.mono (Nat.le_succ _))); have HS3D := Lib.hid (Nat.le_trans HSA.out hb3.size); have HZ3D := Lib.hid (HZA.out.below hb3 (Nat.lt_succ_self _)); clear hown3 hb3; obtain ⟨k0, k1, k2, k3⟩ := HV3.out _ HB3D.out; have hg3 : g < w3.heap.size := Var4.lt ⟨k0, k1, k2, k3⟩)
        | (show (if Region.wanted ⟨some 34, _, _, _, _, _⟩ _ = true then _ else _); refine step_appL rfl (.tmp 32) (.tmp 33) 27 rfl Y.heap.size 23 Try.underlying27 Try.infVal v3 lx rfl HO3.out Y.heap.size vy ly rfl (HYV.out _ HB3a.out) HLN2.out HS3.out ?_; intro v5 w5 hown5 hb5 _; have HR5 := Lib.hid hown5.read; have HB5 := Lib.hid (HB3a.out.trans hb5); have HR5A := Lib.hid (hown5.alloc (.cells #[.int .i64 0, .int .i64 0, .bool false, .int .i64 0, .string ⟨#[]⟩, .bool false, .int .i64 0, .string ⟨#[]⟩] 25)).read; have HB5A := Lib.hid ((HB3a.out.trans hb5).alloc (Nat.le_trans HS3.out hb5.size) (.cells #[.int .i64 0, .int .i64 0, .bool false, .int .i64 0, .string ⟨#[]⟩, .bool false, .int .i64 0, .string ⟨#[]⟩] 25)); have HZ5A := Lib.hid (VarZ.new w5 zn0 25); have HS5 := Lib.hid (Nat.le_trans HS3.out hb5.size); clear hown5 hb5; obtain ⟨k0, k1, k2, k3⟩ := HV3.out _ HB5.out; have hg5 : g < w5.heap.size := Var4.lt ⟨k0, k1, k2, k3⟩)
        | (show (if Region.wanted ⟨some 34, _, _, _, _, _⟩ _ = true then _ else _); refine step_appL rfl (.tmp 32) (.tmp 33) 27 rfl Y.heap.size 23 Try.underlying27 Try.infVal v3 lx rfl HO3A.out Y.heap.size vy ly rfl (HYV.out _ HB3A.out) HLN2.out HS3A.out ?_; intro v5 w5 hown5 hb5 hg5; have HR5C := Lib.hid hown5.read; have HB5C := Lib.hid (HB3A.out.trans hb5); have HZ5C := Lib.hid (HZ3A.out.grown hg5 (fun e => absurd (HL3.out _ e.symm) (Nat.lt_irrefl _))); clear hown5 hb5 hg5; obtain ⟨k0, k1, k2, k3⟩ := HV3.out _ HB5C.out; have hg5 : g < w5.heap.size := Var4.lt ⟨k0, k1, k2, k3⟩)
        | (show (if Region.wanted ⟨some 34, _, _, _, _, _⟩ _ = true then _ else _); refine step_appL rfl (.tmp 32) (.tmp 33) 27 rfl (Y.heap.size + 1) 23 Try.underlying27 Try.infVal v3 lx rfl HO3D.out Y.heap.size vy ly rfl (HYV.out _ HB3D.out) HLN2.out HS3D.out ?_; intro v5 w5 hown5 hb5 _; have HR5D := Lib.hid hown5.read; have HB5D := Lib.hid (HB3D.out.trans (hb5.mono (Nat.le_succ _))); have HZ5D := Lib.hid (HZ3D.out.below hb5 (Nat.lt_succ_self _)); clear hown5 hb5; obtain ⟨k0, k1, k2, k3⟩ := HV3.out _ HB5D.out; have hg5 : g < w5.heap.size := Var4.lt ⟨k0, k1, k2, k3⟩)
        | (go_simp; go_at_call 10; (with_reducible refine (H3 _ _ HR5.out).out.mono ?_); rintro e w7 ⟨rfl, hb7⟩; have HB7 := Lib.hid (bel_trans HB5.out hb7); have HN7 := Lib.hid (VarZ.new w7 ⟨r3, u3, ⟨mb3, mi3, ms3⟩, ⟨xb3, xi3, xs3⟩⟩ 25); have HBN := Lib.hid ((bel_trans HB5.out hb7).alloc (Nat.le_trans HS5.out hb7.size) (.cells #[.int .i64 r3, .int .i64 u3, .bool mb3, .int .i64 mi3, .string ms3, .bool xb3, .int .i64 xi3, .string xs3] 25)); clear hb7; obtain ⟨k0, k1, k2, k3⟩ := HV3.out _ HB7.out)
        | (go_simp; go_at_call 10; (with_reducible refine (H3 _ _ HR5A.out).out.mono ?_); rintro e w7 ⟨rfl, hb7⟩; have HB7 := Lib.hid (bel_trans HB5A.out hb7); have hz7 := HZ5A.out.step hb7; have HZ7 := Lib.hid (hz7.put ⟨r3, u3, ⟨mb3, mi3, ms3⟩, ⟨xb3, xi3, xs3⟩⟩); have HBZ := Lib.hid (put8_below (z := ⟨r3, u3, ⟨mb3, mi3, ms3⟩, ⟨xb3, xi3, xs3⟩⟩) HB7.out (show Y.heap.size ≤ w5.heap.size by first | exact Nat.le_refl _ | exact HS3.out | exact HS5.out)); obtain ⟨f0, f1, f2, f3, f4, f5, f6, f7⟩ := hz7.frz; obtain ⟨a0, a1, a2, a3, a4, a5, a6, a7, _⟩ := hz7; simp only [zn0, vl0] at a0 a1 a2 a3 a4 a5 a6 a7; clear hb7; obtain ⟨k0, k1, k2, k3⟩ := HV3.out _ HB7.out)
        | (go_simp; go_at_call 10; (with_reducible refine (H3 _ _ HR5C.out).out.mono ?_); rintro e w7 ⟨rfl, hb7⟩; have HB7 := Lib.hid (bel_trans HB5C.out hb7); have hz7 := HZ5C.out.step hb7; have HZ7 := Lib.hid (hz7.put ⟨r3, u3, ⟨mb3, mi3, ms3⟩, ⟨xb3, xi3, xs3⟩⟩); have HBZ := Lib.hid (put8_below (z := ⟨r3, u3, ⟨mb3, mi3, ms3⟩, ⟨xb3, xi3, xs3⟩⟩) HB7.out (show Y.heap.size ≤ w3.heap.size by first | exact Nat.le_refl _ | exact HS3.out | exact HS5.out)); obtain ⟨f0, f1, f2, f3, f4, f5, f6, f7⟩ := hz7.frz; obtain ⟨a0, a1, a2, a3, a4, a5, a6, a7, _⟩ := hz7; simp only [zn0, vl0] at a0 a1 a2 a3 a4 a5 a6 a7; clear hb7; obtain ⟨k0, k1, k2, k3⟩ := HV3.out _ HB7.out)
        | (go_simp; go_at_call 10; (with_reducible refine (H3 _ _ HR5D.out).out.mono ?_); rintro e w7 ⟨rfl, hb7⟩; have HB7 := Lib.hid (bel_trans HB5D.out hb7); have hz7 := HZ5D.out.step hb7; have HZ7 := Lib.hid (hz7.put ⟨r3, u3, ⟨mb3, mi3, ms3⟩, ⟨xb3, xi3, xs3⟩⟩); have HBZ := Lib.hid (put8_below (z := ⟨r3, u3, ⟨mb3, mi3, ms3⟩, ⟨xb3, xi3, xs3⟩⟩) HB7.out (show Y.heap.size ≤ Y.heap.size by first | exact Nat.le_refl _ | exact HS3.out | exact HS5.out)); obtain ⟨f0, f1, f2, f3, f4, f5, f6, f7⟩ := hz7.frz; obtain ⟨a0, a1, a2, a3, a4, a5, a6, a7, _⟩ := hz7; simp only [zn0, vl0] at a0 a1 a2 a3 a4 a5 a6 a7; clear hb7; obtain ⟨k0, k1, k2, k3⟩ := HV3.out _ HB7.out)
        | fail)
      all_goals
        go_wp2_with fail
        go_meet
        case rel => first | exact ⟨_, rfl, HZ7.out, HBZ.out⟩ | exact ⟨_, rfl, HN7.out, HBN.out⟩
    case rest =>
      obtain ⟨b, rfl, hz, hbc⟩ := hcut
      have HVU := fun w' (hw : Below wc.heap.size wc w') => Lib.hid (And.intro (HV3.out _ (bel_trans hbc hw)) (And.intro (HZ3 _ (bel_trans hbc hw)).out (hz.step hw)))
      have HBU := Lib.hid (bel_trans HB3.out hbc)
      have HA := fun w => Lib.hid (awake14_any w)
      clear hz hbc HV3 HZ3 HB3 HXV HYV HLN HLN2 H3 lp lq hpq
      go_wp2_with fail
      refine Go.Confl.wp_region_confl (by simp only [List.map_cons, List.map_nil]; rfl) (by kernel_rfl) (by kernel_rfl) ?_
      iterate 31
        first
        | (refine Go.Confl.chain_skip (Go.Confl.unwanted_is rfl rfl) ?_)
        | (first | apply Go.Confl.chain_is _ (Go.Confl.wanted_none rfl) | apply Go.Confl.chain_is _ (Go.Confl.wanted_is rfl rfl)
           · intro b w hr hb K hK
             simp [Go.Confl.readFacts, Go.Confl.tmpsOf, Go.Confl.writerOf, Go.Confl.Is, Op.operands, Call.operands, List.findIdx?, List.findIdx?.go] at hr
             obtain ⟨⟨k0, k1, k2, k3⟩, ⟨⟨x0, x1, x2, x3, x4, x5, x6, x7, _⟩, ⟨y0, y1, y2, y3, y4, y5, y6, y7, _⟩⟩, ⟨z0, z1, z2, z3, z4, z5, z6, z7, _⟩⟩ := (HVU _ hb).out
             simp only at x0 x1 x2 x3 x4 x5 x6 x7 y0 y1 y2 y3 y4 y5 y6 y7 z0 z1 z2 z3 z4 z5 z6 z7
             go_wp2_with (first
               | (go_at_call 14; (with_reducible refine (HA _).out.mono ?_); rintro e w' ⟨rfl, hb'⟩)
               | (go_at_call 17; (with_reducible refine (H5 _).out.mono ?_); rintro e w' ⟨rfl, hb'⟩)
               | (go_at_call 17; (with_reducible refine (H6 _).out.mono ?_); rintro e w' ⟨rfl, hb'⟩)
               | (go_at_call 17; (with_reducible refine (H7 _).out.mono ?_); rintro e w' ⟨rfl, hb'⟩)
               | (go_at_call 15; (with_reducible refine (H4 _).out.mono ?_); rintro e w' ⟨rfl, hb'⟩))
             try (simp only [hr]; go_wp2)
             exact hK _ _ rfl (by first | exact Below.refl _ _ | assumption))
        simp only [List.nil_append, List.cons_append]
      intro us w hp hb
      simp [Go.Confl.allPosts, Go.Confl.Is] at hp
      simp only [Go.Confl.putsFrom, hp, Act.put, List.setIfInBounds_toArray, List.set_cons_zero, List.set_cons_succ]
      go_wp2
      go_ret
      exact RetB.mk rfl (bel_trans HBU.out hb)
theorem zoneJoins_holds : Rows.ZoneJoinsSaid :=
  OpenClaim.holds_of_wide 5 Try.f5 rfl rfl rfl rfl rfl rfl rfl ⟨rfl, rfl, rfl, rfl, rfl⟩ rfl rfl rfl rfl rfl (by kernel_rfl) Try.func5 (by kernel_rfl)
    (of_decide_eq_true (by kernel_rfl)) (by unfold Func.isWrapper; first | (rw [if_pos (by decide +kernel)]; kernel_rfl) | (rw [if_neg (by decide +kernel)]; exact ⟨rfl, rfl⟩))
    (fun os started H enc _ => zoneJoins_lifted os started H enc)
end Go.Proofs.Ythohmngckpjlbaa
