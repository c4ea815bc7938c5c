/- ValueIsOrdered: Compare is antisymmetric and transitive, and 0 only for equal valid values. No condition. -/
import Derived.Test.YtidlemedkjkmdaaValK
import Derived.Test.YtidlemedkjkmdaaValP
import Derived.Test.YtidlemedkjkmdaaValT
namespace Go.Proofs.Ytidlemedkjkmdaa
open Go.RowKit Go.VB Go.VL Go.ChangeShapes Go.WideShapes Go.ChangeAt
open Go.ChangeMaps (open_string)
set_option linter.constructorNameAsVariable false
set_option maxRecDepth 100000 in
set_option maxHeartbeats 8000000 in
theorem ordered_walk (ty : Int) (v1 v2 v3 : Value) (zl zm zn : List Int) (W : World)
    (wty : (Lit.int .i64 ty).wf = true) (rl : RdI .i64 W W.heap.size v1 zl) (wl : ∀ z ∈ zl, (Lit.int .i64 z).wf = true) (rm : RdI .i64 W W.heap.size v2 zm) (wm : ∀ z ∈ zm, (Lit.int .i64 z).wf = true)
    (rn : RdI .i64 W W.heap.size v3 zn) (wn : ∀ z ∈ zn, (Lit.int .i64 z).wf = true) :
    Calls Try.prog 5 #[.int .i64 ty, v1, v2, v3] W (RetB (.bool true) W) := by
  have HC := fun w => Lib.hid (col_any ty 2 true w wty (by decide))
  have hct := ctyp_bd ty
  have hAw := fun w => Lib.hid (awakeV_any w)
  generalize ctyp ty = dty at *
  generalize cscale ty 2 = dsc at *
  have HX := fun (w : World) (hB : Below W.heap.size W w) => Lib.hid (kValue_any w v1 zl xs dty dsc true ((rl.below hB).more hB.size) wl hct)
  have HY := fun (w : World) (hB : Below W.heap.size W w) => Lib.hid (kValue_any w v2 zm xs dty dsc true ((rm.below hB).more hB.size) wm hct)
  have HZ := fun (w : World) (hB : Below W.heap.size W w) => Lib.hid (kValue_any w v3 zn xs dty dsc true ((rn.below hB).more hB.size) wn hct)
  generalize xs = X at *
  clear wty rl wl rm wm rn wn
  go_enter Try.func5, Try.ntmps5
  go_wp2_with fail
  refine (HC _).out.mono ?_
  rintro e w1 ⟨rfl, hB⟩
  clear HC
  go_wp2_with fail
  have hVd := Var4.new w1 (.string X) (.int .i64 dty) (.int .i64 dsc) (.bool true) 23
  have hb2 := (Below.refl w1.heap.size w1).alloc (Nat.le_refl _) (.cells #[.string X, .int .i64 dty, .int .i64 dsc, .bool true] 23)
  replace hB := bel_trans hB hb2
  clear hb2
  generalize hW1 : w1.heap.size = d0 at *
  generalize hW2 : w1.alloc (.cells #[.string X, .int .i64 dty, .int .i64 dsc, .bool true] 23) = w2 at *
  have HVd := fun (w : World) (hb : Below w2.heap.size w2 w) => Lib.hid (hVd.step hb)
  have HX' := fun (w : World) (hb : Below w2.heap.size w2 w) => HX w (bel_trans hB hb)
  have HY' := fun (w : World) (hb : Below w2.heap.size w2 w) => HY w (bel_trans hB hb)
  have HZ' := fun (w : World) (hb : Below w2.heap.size w2 w) => HZ w (bel_trans hB hb)
  clear hW1 hW2 HX HY HZ hVd
  refine Go.ConflA.wp_region_tail_at 12 (by simp only [List.take_succ_cons, List.take_zero, List.map_cons, List.map_nil]; rfl) (by kernel_rfl) (by kernel_rfl) (by kernel_rfl) (by kernel_rfl) (by kernel_rfl) (Nat.zero_lt_succ _) (by kernel_rfl) ?_
  simp only [List.take_succ_cons, List.take_zero, List.drop_succ_cons, List.drop_zero]
  iterate 2
    first
    | (refine Go.ConflA.chainA_skip (Go.Confl.unwanted_is rfl rfl) ?_)
    | (first | apply Go.ConflA.chainA_is _ (Go.Confl.wanted_none rfl) | apply Go.ConflA.chainA_is _ (Go.Confl.wanted_is rfl rfl)
       · intro b w hr hb K hK
         simp [Go.Confl.readFacts, Go.Confl.tmpsOf, Go.Confl.writerOf, Op.operands, List.findIdx?, List.findIdx?.go] at hr
         obtain ⟨n0, n1, n2, n3⟩ := (HVd _ hb).out
         go_wp2_with fail
         try (simp only [hr]; go_wp2)
         exact hK _ _ rfl (by first | exact Below.refl _ _ | assumption))
    simp only [List.nil_append, List.cons_append]
  apply Go.ConflA.chainA_any (VPost dty) (VPost.stable dty) (Go.Confl.wanted_none rfl)
  · intro f w hr hb K hK
    simp [Go.Confl.readFacts, Go.Confl.tmpsOf, Go.Confl.writerOf, Go.Confl.Is, Op.operands, Call.operands, List.findIdx?, List.findIdx?.go] at hr
    go_wp2_with fail
    refine (HX' _ hb).out.mono ?_
    rintro e w' ⟨nul, n, s, rfl, hv, hb'⟩
    exact hK _ _ ⟨nul, n, s, rfl, hv.1⟩ hb'
  simp only [List.nil_append, List.cons_append]
  iterate 2
    first
    | (refine Go.ConflA.chainA_skip (Go.Confl.unwanted_is rfl rfl) ?_)
    | (first | apply Go.ConflA.chainA_is _ (Go.Confl.wanted_none rfl) | apply Go.ConflA.chainA_is _ (Go.Confl.wanted_is rfl rfl)
       · intro b w hr hb K hK
         simp [Go.Confl.readFacts, Go.Confl.tmpsOf, Go.Confl.writerOf, Op.operands, List.findIdx?, List.findIdx?.go] at hr
         obtain ⟨n0, n1, n2, n3⟩ := (HVd _ hb).out
         go_wp2_with fail
         try (simp only [hr]; go_wp2)
         exact hK _ _ rfl (by first | exact Below.refl _ _ | assumption))
    simp only [List.nil_append, List.cons_append]
  apply Go.ConflA.chainA_any (VPost dty) (VPost.stable dty) (Go.Confl.wanted_none rfl)
  · intro f w hr hb K hK
    simp [Go.Confl.readFacts, Go.Confl.tmpsOf, Go.Confl.writerOf, Go.Confl.Is, Op.operands, Call.operands, List.findIdx?, List.findIdx?.go] at hr
    go_wp2_with fail
    refine (HY' _ hb).out.mono ?_
    rintro e w' ⟨nul, n, s, rfl, hv, hb'⟩
    exact hK _ _ ⟨nul, n, s, rfl, hv.1⟩ hb'
  simp only [List.nil_append, List.cons_append]
  iterate 2
    first
    | (refine Go.ConflA.chainA_skip (Go.Confl.unwanted_is rfl rfl) ?_)
    | (first | apply Go.ConflA.chainA_is _ (Go.Confl.wanted_none rfl) | apply Go.ConflA.chainA_is _ (Go.Confl.wanted_is rfl rfl)
       · intro b w hr hb K hK
         simp [Go.Confl.readFacts, Go.Confl.tmpsOf, Go.Confl.writerOf, Op.operands, List.findIdx?, List.findIdx?.go] at hr
         obtain ⟨n0, n1, n2, n3⟩ := (HVd _ hb).out
         go_wp2_with fail
         try (simp only [hr]; go_wp2)
         exact hK _ _ rfl (by first | exact Below.refl _ _ | assumption))
    simp only [List.nil_append, List.cons_append]
  apply Go.ConflA.chainA_any (VPost dty) (VPost.stable dty) (Go.Confl.wanted_none rfl)
  · intro f w hr hb K hK
    simp [Go.Confl.readFacts, Go.Confl.tmpsOf, Go.Confl.writerOf, Go.Confl.Is, Op.operands, Call.operands, List.findIdx?, List.findIdx?.go] at hr
    go_wp2_with fail
    refine (HZ' _ hb).out.mono ?_
    rintro e w' ⟨nul, n, s, rfl, hv, hb'⟩
    exact hK _ _ ⟨nul, n, s, rfl, hv.1⟩ hb'
  simp only [List.nil_append, List.cons_append]
  iterate 3
    apply Go.ConflA.chainA_any (NewV w2) (NewV.stable w2) (Go.Confl.wanted_none rfl)
    · intro f w hr hb K hK
      go_wp2_with fail
      exact hK _ _ ⟨_, rfl, hb.size, Var3.new w _ _ _ 25⟩ ((Below.refl _ _).alloc (Nat.le_refl _) _)
    simp only [List.nil_append, List.cons_append]
  intro us w hp hdist hb
  simp [Go.Confl.allPosts, Go.Confl.Is] at hp
  simp only [Go.Confl.putsFrom, Act.put, List.setIfInBounds_toArray, List.set_cons_zero, List.set_cons_succ]
  change wpList _ _ _ _ _ _
  clear HX' HY' HZ'
  obtain ⟨e0, e1, ⟨xb, xn, xt, e2, hx⟩, e3, e4, ⟨yb, yn, yt, e5, hy⟩, e6, e7, ⟨zb, zk, zt, e8, hz⟩, ⟨gx, e9, lx, Vx⟩, ⟨gy, e10, ly, Vy⟩, ⟨gz, e11, lz, Vz⟩⟩ := hp
  have hxy : gx ≠ gy := dist_ne (by have h := hdist 9 10 _ _ rfl rfl (by decide) rfl rfl; rw [e9, e10] at h; exact h)
  have hxz : gx ≠ gz := dist_ne (by have h := hdist 9 11 _ _ rfl rfl (by decide) rfl rfl; rw [e9, e11] at h; exact h)
  have hyz : gy ≠ gz := dist_ne (by have h := hdist 10 11 _ _ rfl rfl (by decide) rfl rfl; rw [e10, e11] at h; exact h)
  simp only [e0, e1, e2, e3, e4, e5, e6, e7, e8, e9, e10, e11]
  clear e0 e1 e2 e3 e4 e5 e6 e7 e8 e9 e10 e11 hdist
  have H1 := fun w => Lib.hid (cmp_any dty xb xn xt yb yn yt w)
  have H2 := fun w => Lib.hid (cmp_any dty yb yn yt zb zk zt w)
  have H3 := fun w => Lib.hid (cmp_any dty xb xn xt zb zk zt w)
  have H4 := fun w => Lib.hid (cmp_any dty yb yn yt xb xn xt w)
  rw [cmp_neg dty xb xn xt yb yn yt] at H4
  have hz0 := cmp_zero hct hx hy
  have hle := fun h1 h2 => cmp_le (ty := dty) (x := xb) (n := xn) (s := xt) (y := yb) (m := yn) (t := yt) (z := zb) (k := zk) (u := zt) h1 h2
  have hz1 := cmp_zero hct hx hy
  have hz2 := cmp_zero hct hy hz
  have hz3 := cmp_zero hct hx hz
  have hr1 : -1 ≤ cmp dty xb xn xt yb yn yt ∧ cmp dty xb xn xt yb yn yt ≤ 1 := cmp_bd _ _ _ _ _ _ _
  have hr2 : -1 ≤ cmp dty yb yn yt zb zk zt ∧ cmp dty yb yn yt zb zk zt ≤ 1 := cmp_bd _ _ _ _ _ _ _
  have hr3 : -1 ≤ cmp dty xb xn xt zb zk zt ∧ cmp dty xb xn xt zb zk zt ≤ 1 := cmp_bd _ _ _ _ _ _ _
  generalize cmp dty xb xn xt yb yn yt = c1 at *
  generalize cmp dty yb yn yt zb zk zt = c2 at *
  generalize cmp dty xb xn xt zb zk zt = c3 at *
  have h00 : c1 = 0 → c2 = 0 → c3 = 0 := fun h1 h2 => by
    obtain ⟨rfl, rfl, rfl⟩ := hz1.1 h1
    obtain ⟨rfl, rfl, rfl⟩ := hz2.1 h2
    exact hz3.2 ⟨rfl, rfl, rfl⟩
  clear hx hy hz hct hz1 hz2 hz3
  have Vy1 := Vy.other (Ne.symm hxy) (.bool xb) (.int .i64 xn) (.string xt)
  have Vz1 := (Vz.other (Ne.symm hxz) (.bool xb) (.int .i64 xn) (.string xt)).other (Ne.symm hyz) (.bool yb) (.int .i64 yn) (.string yt)
  have Vx5 := ((Vx.set (.bool xb) (.int .i64 xn) (.string xt)).other hxy (.bool yb) (.int .i64 yn) (.string yt)).other hxz (.bool zb) (.int .i64 zk) (.string zt)
  have Vy5 := (Vy1.set (.bool yb) (.int .i64 yn) (.string yt)).other hyz (.bool zb) (.int .i64 zk) (.string zt)
  have Vz5 := Vz1.set (.bool zb) (.int .i64 zk) (.string zt)
  have hb5 := set3_below (set3_below (set3_below hb lx (.bool xb) (.int .i64 xn) (.string xt)) ly (.bool yb) (.int .i64 yn) (.string yt)) lz (.bool zb) (.int .i64 zk) (.string zt)
  obtain ⟨k0, k1, k2, f0, f1, f2⟩ := Vx
  obtain ⟨m0, m1, m2, g0, g1, g2⟩ := Vy1
  obtain ⟨n0, n1, n2, h0, h1, h2⟩ := Vz1
  go_wp2_with fail
  clear k0 k1 k2 f0 f1 f2 m0 m1 m2 g0 g1 g2 n0 n1 n2 h0 h1 h2 Vy Vz
  have Vd := (HVd _ hb5).out
  replace hB := bel_trans hB hb5
  clear HVd lx ly lz hb hb5 hxy hxz hyz
  generalize ((((((((w.setCell ⟨gx, 0, none⟩ (.bool xb)).setCell ⟨gx, 1, none⟩ (.int .i64 xn)).setCell ⟨gx, 2, none⟩ (.string xt)).setCell ⟨gy, 0, none⟩ (.bool yb)).setCell ⟨gy, 1, none⟩ (.int .i64 yn)).setCell ⟨gy, 2, none⟩ (.string yt)).setCell ⟨gz, 0, none⟩ (.bool zb)).setCell ⟨gz, 1, none⟩ (.int .i64 zk)).setCell ⟨gz, 2, none⟩ (.string zt) = w5 at *
  have HV := fun (w : World) (hb : Below w5.heap.size w5 w) => Lib.hid (And.intro (Vd.step hb) (And.intro (Vx5.step hb) (And.intro (Vy5.step hb) (Vz5.step hb))))
  clear Vd Vx5 Vy5 Vz5
  refine Go.Confl.wp_region_confl (by simp only [List.map_cons, List.map_nil]; rfl) (by kernel_rfl) (by kernel_rfl) ?_
  iterate 18
    first
    | (refine Go.Confl.chain_skip (Go.Confl.unwanted_is rfl rfl) ?_)
    | (first | apply Go.Confl.chain_is _ (Go.Confl.wanted_none rfl) | apply Go.Confl.chain_is _ (Go.Confl.wanted_is rfl rfl)
       · intro b w hr hb K hK
         simp [Go.Confl.readFacts, Go.Confl.tmpsOf, Go.Confl.writerOf, Go.Confl.Is, Op.operands, Call.operands, List.findIdx?, List.findIdx?.go] at hr
         obtain ⟨⟨n0, n1, n2, n3⟩, ⟨p0, p1, p2, _, _, _⟩, ⟨q0, q1, q2, _, _, _⟩, ⟨r0, r1, r2, _, _, _⟩⟩ := (HV _ hb).out
         go_wp2_with (first
           | (go_at_call 15; (with_reducible refine (H1 _).out.mono ?_); rintro e w' ⟨rfl, hb'⟩)
           | (go_at_call 15; (with_reducible refine (H2 _).out.mono ?_); rintro e w' ⟨rfl, hb'⟩)
           | (go_at_call 15; (with_reducible refine (H3 _).out.mono ?_); rintro e w' ⟨rfl, hb'⟩))
         try (simp only [hr]; go_wp2)
         exact hK _ _ rfl (by first | exact Below.refl _ _ | assumption))
    simp only [List.nil_append, List.cons_append]
  intro us w hp hb
  simp [Go.Confl.allPosts, Go.Confl.Is] at hp
  simp only [Go.Confl.putsFrom, hp, Act.put, List.setIfInBounds_toArray, List.set_cons_zero, List.set_cons_succ]
  replace hB := bel_trans hB hb
  have V := (HV _ hb).out
  clear HV hb hp H1 H2 H3
  obtain ⟨Vd, Vx, Vy, Vz⟩ := V
  clear Vz
  have e1 : c1 = -1 ∨ c1 = 0 ∨ c1 = 1 := by omega
  have e2 : c2 = -1 ∨ c2 = 0 ∨ c2 = 1 := by omega
  have e3 : c3 = -1 ∨ c3 = 0 ∨ c3 = 1 := by omega
  clear hr1 hr2 hr3
  have hne : c1 ≠ 0 → ¬ (xb = yb ∧ xn = yn ∧ xt = yt) := fun h0 h => h0 (hz0.2 h)
  have heq : c1 = 0 → (xb = yb ∧ xn = yn ∧ xt = yt) := hz0.1
  clear hz0
  rcases e1 with rfl | rfl | rfl
  · first | (replace hne := hne (by decide); clear heq) | (obtain ⟨rfl, rfl, rfl⟩ := heq rfl; clear hne)
    rcases e2 with rfl | rfl | rfl <;> rcases e3 with rfl | rfl | rfl
    all_goals first
      | (exact absurd (hle (by decide) (by decide)) (by decide))
      | (exact absurd (h00 rfl rfl) (by decide))
      | (clear hle h00
         go_wp2_with fail
         refine (hAw _).out.mono ?_
         rintro e w' ⟨rfl, hb⟩
         obtain ⟨n0, n1, n2, n3⟩ := Vd.step hb
         obtain ⟨p0, p1, p2, _, _, _⟩ := Vx.step hb
         obtain ⟨q0, q1, q2, _, _, _⟩ := Vy.step hb
         replace hB := bel_trans hB hb
         go_wp2_with fail
         refine (H4 _).out.mono ?_
         rintro e w'' ⟨rfl, hb'⟩
         obtain ⟨p0, p1, p2, _, _, _⟩ := (Vx.step hb).step hb'
         obtain ⟨q0, q1, q2, _, _, _⟩ := (Vy.step hb).step hb'
         replace hB := bel_trans hB hb'
         clear n0 n1 n2 n3 hb hb' Vd Vx Vy H4 hAw
         go_wp2
         all_goals first
           | (exact absurd ⟨by assumption, by assumption, toList_inj (by assumption)⟩ hne)
           | (go_ret; exact RetB.mk rfl hB))
  · first | (replace hne := hne (by decide); clear heq) | (obtain ⟨rfl, rfl, rfl⟩ := heq rfl; clear hne)
    rcases e2 with rfl | rfl | rfl <;> rcases e3 with rfl | rfl | rfl
    all_goals first
      | (exact absurd (hle (by decide) (by decide)) (by decide))
      | (exact absurd (h00 rfl rfl) (by decide))
      | (clear hle h00
         go_wp2_with fail
         refine (hAw _).out.mono ?_
         rintro e w' ⟨rfl, hb⟩
         obtain ⟨n0, n1, n2, n3⟩ := Vd.step hb
         obtain ⟨p0, p1, p2, _, _, _⟩ := Vx.step hb
         obtain ⟨q0, q1, q2, _, _, _⟩ := Vy.step hb
         replace hB := bel_trans hB hb
         go_wp2_with fail
         refine (H4 _).out.mono ?_
         rintro e w'' ⟨rfl, hb'⟩
         obtain ⟨p0, p1, p2, _, _, _⟩ := (Vx.step hb).step hb'
         obtain ⟨q0, q1, q2, _, _, _⟩ := (Vy.step hb).step hb'
         replace hB := bel_trans hB hb'
         clear n0 n1 n2 n3 hb hb' Vd Vx Vy H4 hAw
         go_wp2
         all_goals first
           | (exact absurd ⟨by assumption, by assumption, toList_inj (by assumption)⟩ hne)
           | (go_ret; exact RetB.mk rfl hB))
  · first | (replace hne := hne (by decide); clear heq) | (obtain ⟨rfl, rfl, rfl⟩ := heq rfl; clear hne)
    rcases e2 with rfl | rfl | rfl <;> rcases e3 with rfl | rfl | rfl
    all_goals first
      | (exact absurd (hle (by decide) (by decide)) (by decide))
      | (exact absurd (h00 rfl rfl) (by decide))
      | (clear hle h00
         go_wp2_with fail
         refine (hAw _).out.mono ?_
         rintro e w' ⟨rfl, hb⟩
         obtain ⟨n0, n1, n2, n3⟩ := Vd.step hb
         obtain ⟨p0, p1, p2, _, _, _⟩ := Vx.step hb
         obtain ⟨q0, q1, q2, _, _, _⟩ := Vy.step hb
         replace hB := bel_trans hB hb
         go_wp2_with fail
         refine (H4 _).out.mono ?_
         rintro e w'' ⟨rfl, hb'⟩
         obtain ⟨p0, p1, p2, _, _, _⟩ := (Vx.step hb).step hb'
         obtain ⟨q0, q1, q2, _, _, _⟩ := (Vy.step hb).step hb'
         replace hB := bel_trans hB hb'
         clear n0 n1 n2 n3 hb hb' Vd Vx Vy H4 hAw
         go_wp2
         all_goals first
           | (exact absurd ⟨by assumption, by assumption, toList_inj (by assumption)⟩ hne)
           | (go_ret; exact RetB.mk rfl hB))
set_option maxRecDepth 100000 in
set_option maxHeartbeats 4000000 in
theorem valueIsOrdered_lifted (os : Os) (started : os.Started) (H : Type) (enc : TypeId × Value → H) :
    ReturnsInHanded {} Try.checked os 5 .any (Rows.valueIsOrderedSpec.pre6 enc Try.prog Try.f5 Rows.valueIsOrderedRow.domain false) (Rows.valueIsOrderedSpec.post enc Try.prog Try.f5 false true false false) := by
  refine law_lifted (C := Try.checked) (tb := 4) started Try.own Try.laidOut (by kernel_rfl) Try.func5
    (ChangeSpec.witness6 (enc := enc) (C := Try.checked) false ⟨#[], #[.int .i64 0, .slice none 0 0, .slice none 0 0, .slice none 0 0], []⟩ 8 (by kernel_rfl) (by kernel_rfl) (by kernel_rfl) (by kernel_rfl))
    rfl rfl Try.underlying4 (by kernel_rfl) (fun ds h => ?_) (fun W base args ds p hval0 hA0 hsz0 hlt => ?_)
  · have h' : ds.length = Try.f5.params.toList.length := h
    rw [Try.params5] at h'
    match ds, h' with
    | [_, _, _, _], _ => rfl
  · have hval : ∀ (j : Nat) t v, Try.f5.params[j]? = some t → args[j]? = some v → Value.okWide Try.prog W .any base t v := hval0
    have hA : DataW.TrodAll enc Try.prog W 0 (fun _ => true) true Try.f5.params.toList args.toList ds p := hA0
    have hsz : (DataW.weightsEach Try.prog Try.f5.params.toList ds).all (· ≤ reachBytes) = true := hsz0
    rw [Try.params5] at hA hval hsz
    clear hA0 hval0 hsz0
    obtain ⟨v0, vs0, d0, ds0, p0, q0, hargs, rfl, rfl, h0, r0⟩ := trodAll_cons hA
    obtain ⟨v1, vs1, d1, ds1, p1, q1, rfl, rfl, rfl, h1, r1⟩ := trodAll_cons r0
    obtain ⟨v2, vs2, d2, ds2, p2, q2, rfl, rfl, rfl, h2, r2⟩ := trodAll_cons r1
    obtain ⟨v3, vs3, d3, ds3, p3, q3, rfl, rfl, rfl, h3, r3⟩ := trodAll_cons r2
    obtain ⟨rfl, rfl, rfl⟩ := trodAll_nil r3
    obtain rfl : args = #[v0, v1, v2, v3] := by cases args; simp_all
    obtain ⟨typ, rfl, rfl, rfl, wtyp⟩ := open_int Try.underlying3 (hval 0 3 v0 rfl rfl) h0
    obtain ⟨zl, rl, wl, bl⟩ := open_rdI Try.underlying32 Try.underlying3 (by kernel_rfl) (hval 1 32 v1 rfl rfl) h1 hsz (j := 1) rfl rfl
    obtain ⟨zm, rm, wm, bm⟩ := open_rdI Try.underlying32 Try.underlying3 (by kernel_rfl) (hval 2 32 v2 rfl rfl) h2 hsz (j := 2) rfl rfl
    obtain ⟨zn, rn, wn, bn⟩ := open_rdI Try.underlying32 Try.underlying3 (by kernel_rfl) (hval 3 32 v3 rfl rfl) h3 hsz (j := 3) rfl rfl
    change Calls Try.prog 5 #[.int .i64 typ, v1, v2, v3] W (RetB (.bool true) W)
    exact ordered_walk typ v1 v2 v3 zl zm zn W wtyp rl wl rm wm rn wn
theorem valueIsOrdered_holds : Rows.ValueIsOrderedSaid :=
  OpenClaim.holds_of_wide 5 Try.f5 rfl rfl rfl rfl rfl rfl rfl ⟨rfl, rfl, rfl, rfl, rfl⟩ rfl rfl rfl rfl rfl (by kernel_rfl) Try.func5 (by kernel_rfl)
    (of_decide_eq_true (by kernel_rfl)) (by unfold Func.isWrapper; first | (rw [if_pos (by decide +kernel)]; kernel_rfl) | (rw [if_neg (by decide +kernel)]; exact ⟨rfl, rfl⟩))
    (fun os started H enc _ => valueIsOrdered_lifted os started H enc)
end Go.Proofs.Ytidlemedkjkmdaa
