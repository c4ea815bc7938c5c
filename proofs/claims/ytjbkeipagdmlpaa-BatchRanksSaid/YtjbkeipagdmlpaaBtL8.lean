/- BatchRanks. -/
import Derived.Test.YtjbkeipagdmlpaaBtP
import Derived.Test.YtjbkeipagdmlpaaBtO
import Derived.Test.YtjbkeipagdmlpaaBt3b
import Derived.Test.YtjbkeipagdmlpaaBt7b
import Derived.Test.YtjbkeipagdmlpaaConfl3
namespace Go.Proofs.Ytjbkeipagdmlpaa
open Go.RowKit Go.VB Go.VS Go.SC Go.CK Go.ST Go.MK Go.RS Go.ChangeShapes Go.WideShapes Go.ChangeAt
set_option linter.constructorNameAsVariable false
set_option maxRecDepth 100000 in
set_option maxHeartbeats 4000000 in
theorem batchRanks_lifted (os : Os) (started : os.Started) (H : Type) (enc : TypeId × Value → H) :
    ReturnsInHanded {} Try.checked os 5 .any (Rows.batchRanksSpec.pre6 enc Try.prog Try.f5 Rows.batchRanksRow.domain false) (Rows.batchRanksSpec.post enc Try.prog Try.f5 false true false false) := by
  refine law_lifted (C := Try.checked) (tb := 4) started Try.own Try.laidOut (by kernel_rfl) Try.func5
    (ChangeSpec.witness6 (enc := enc) (C := Try.checked) false ⟨#[], #[.agg #[.slice none 0 0, .int .i64 0], .agg #[.int .i64 0, .slice none 0 0], .int .i64 0, .agg #[.bool false, .int .i64 0, .string ⟨#[]⟩, .int .i64 0], .agg #[.bool false, .int .i64 0, .string ⟨#[]⟩, .int .i64 0], .slice none 0 0, .slice none 0 0], []⟩ 8 (by kernel_rfl) (by kernel_rfl) (by kernel_rfl) (by kernel_rfl))
    rfl rfl Try.underlying4 (by kernel_rfl) (fun ds h => ?_) (fun W base args ds p hval0 hA0 hsz0 hlt => ?_)
  · have h' : ds.length = Try.f5.params.toList.length := h
    rw [Try.params5] at h'
    match ds, h' with
    | [_, _, _, _, _, _, _], _ => rfl
  · have hval : ∀ (j : Nat) t v, Try.f5.params[j]? = some t → args[j]? = some v → Value.okWide Try.prog W .any base t v := hval0
    have hA : DataW.TrodAll enc Try.prog W 0 (fun _ => true) true Try.f5.params.toList args.toList ds p := hA0
    have hsz : (DataW.weightsEach Try.prog Try.f5.params.toList ds).all (· ≤ reachBytes) = true := hsz0
    rw [Try.params5] at hA hval hsz
    clear hA0 hval0 hsz0
    obtain ⟨v0, vs0, d0, ds0, p0, q0, hargs, rfl, rfl, h0, r0⟩ := trodAll_cons hA
    obtain ⟨v1, vs1, d1, ds1, p1, q1, rfl, rfl, rfl, h1, r1⟩ := trodAll_cons r0
    obtain ⟨v2, vs2, d2, ds2, p2, q2, rfl, rfl, rfl, h2, r2⟩ := trodAll_cons r1
    obtain ⟨v3, vs3, d3, ds3, p3, q3, rfl, rfl, rfl, h3, r3⟩ := trodAll_cons r2
    obtain ⟨v4, vs4, d4, ds4, p4, q4, rfl, rfl, rfl, h4, r4⟩ := trodAll_cons r3
    obtain ⟨v5, vs5, d5, ds5, p5, q5, rfl, rfl, rfl, h5, r5⟩ := trodAll_cons r4
    obtain ⟨v6, vs6, d6, ds6, p6, q6, rfl, rfl, rfl, h6, r6⟩ := trodAll_cons r5
    obtain ⟨rfl, rfl, rfl⟩ := trodAll_nil r6
    obtain rfl : args = #[v0, v1, v2, v3, v4, v5, v6] := by cases args; simp_all
    obtain ⟨sv, scs, sk, rfl, sr, wsk⟩ := open_sch (hval 0 28 v0 rfl rfl) h0
    obtain ⟨tq, tv, tl, rfl, tr⟩ := open_rec (hval 1 41 v1 rfl rfl) h1
    obtain ⟨typ, rfl, rfl, rfl, wtyp⟩ := open_int Try.underlying3 (hval 2 3 v2 rfl rfl) h2
    obtain ⟨mb, mn, ms, mq, rfl⟩ := open_rank (hval 3 43 v3 rfl rfl) h3
    obtain ⟨fb, fn, fs, fq, rfl⟩ := open_rank (hval 4 43 v4 rfl rfl) h4
    obtain ⟨zx, rx, wx, bx⟩ := open_rdI Try.underlying30 Try.underlying3 (by kernel_rfl) (hval 5 30 v5 rfl rfl) h5 hsz (j := 5) rfl rfl
    obtain ⟨zl, rl, wl, bl⟩ := open_rdI Try.underlying30 Try.underlying3 (by kernel_rfl) (hval 6 30 v6 rfl rfl) h6 hsz (j := 6) rfl rfl
    change Calls Try.prog 5 #[(.agg #[sv, .int .i64 sk]), (.agg #[.int .i64 tq, tv]), .int .i64 typ, (.agg #[.bool mb, .int .i64 mn, .string ms, .int .i64 mq]), (.agg #[.bool fb, .int .i64 fn, .string fs, .int .i64 fq]), v5, v6] W (RetB (.bool true) W)
    obtain ⟨sA, sc, rfl, -, -, -⟩ := id sr
    obtain ⟨rA, rc, rn, rfl, hrn, -, -⟩ := tr.bds
    subst hrn
    have hR1 := fun w h => brank_any sA scs.length sc sk ⟨tq, tl⟩ rA rc w h
    have hR2 := fun w h => rof_any sA scs.length sc sk ⟨tq, tl⟩ rA rc w h
    simp only at hR1 hR2
    generalize (rankV sk ⟨tq, tl⟩).nu = kb at *
    generalize (rankV sk ⟨tq, tl⟩).n = kn at *
    generalize (rankV sk ⟨tq, tl⟩).s = ks at *
    generalize rankS sk ⟨tq, tl⟩ = kq at *
    have hv1 := Var2.new W (.slice sA scs.length sc) (.int .i64 sk) 28
    have hb1 : Below W.heap.size W (W.alloc (.cells #[.slice sA scs.length sc, .int .i64 sk] 28)) := (Below.refl _ _).alloc (Nat.le_refl _) _
    obtain ⟨Y1, hY1⟩ : ∃ Y, W.alloc (.cells #[.slice sA scs.length sc, .int .i64 sk] 28) = Y := ⟨_, rfl⟩
    have hs1 : Y1.heap.size = W.heap.size + 1 := by rw [← hY1]; simp
    rw [hY1] at hv1 hb1
    have hv2 := Var2.new Y1 (.int .i64 tq) (.slice rA tl.length rc) 41
    have hbb := (Below.refl Y1.heap.size Y1).alloc (Nat.le_refl _) (.cells #[.int .i64 tq, .slice rA tl.length rc] 41)
    obtain ⟨Y2, hY2⟩ : ∃ Y, Y1.alloc (.cells #[.int .i64 tq, .slice rA tl.length rc] 41) = Y := ⟨_, rfl⟩
    have hs2 : Y2.heap.size = W.heap.size + 2 := by rw [← hY2]; simp; omega
    rw [hY2] at hv2 hbb
    have hb2 := bel_trans hb1 hbb
    replace hv1 := hv1.step hbb
    have hv3 := Go.VL.Var4.new Y2 (.bool mb) (.int .i64 mn) (.string ms) (.int .i64 mq) 43
    have hbc := (Below.refl Y2.heap.size Y2).alloc (Nat.le_refl _) (.cells #[.bool mb, .int .i64 mn, .string ms, .int .i64 mq] 43)
    obtain ⟨Y3, hY3⟩ : ∃ Y, Y2.alloc (.cells #[.bool mb, .int .i64 mn, .string ms, .int .i64 mq] 43) = Y := ⟨_, rfl⟩
    have hs3 : Y3.heap.size = W.heap.size + 3 := by rw [← hY3]; simp; omega
    rw [hY3] at hv3 hbc
    have hb3 := bel_trans hb2 hbc
    replace hv1 := hv1.step hbc
    replace hv2 := hv2.step hbc
    have hv4 := Go.VL.Var4.new Y3 (.bool fb) (.int .i64 fn) (.string fs) (.int .i64 fq) 43
    have hbd := (Below.refl Y3.heap.size Y3).alloc (Nat.le_refl _) (.cells #[.bool fb, .int .i64 fn, .string fs, .int .i64 fq] 43)
    obtain ⟨X0, hX0⟩ : ∃ Y, Y3.alloc (.cells #[.bool fb, .int .i64 fn, .string fs, .int .i64 fq] 43) = Y := ⟨_, rfl⟩
    rw [hX0] at hv4 hbd
    have hbX := bel_trans hb3 hbd
    replace hv1 := hv1.step hbd
    replace hv2 := hv2.step hbd
    replace hv3 := hv3.step hbd
    rw [hs1] at hv2
    rw [hs2] at hv3
    rw [hs3] at hv4
    have HX0 := Lib.hid (show (((W.alloc (.cells #[.slice sA scs.length sc, .int .i64 sk] 28)).alloc (.cells #[.int .i64 tq, .slice rA tl.length rc] 41)).alloc (.cells #[.bool mb, .int .i64 mn, .string ms, .int .i64 mq] 43)).alloc (.cells #[.bool fb, .int .i64 fn, .string fs, .int .i64 fq] 43) = X0 by rw [hY1, hY2, hY3, hX0])
    have HV0 := Lib.hid (show ∀ w, Below X0.heap.size X0 w → Var2 w W.heap.size (.slice sA scs.length sc) (.int .i64 sk) ∧ Var2 w (W.heap.size + 1) (.int .i64 tq) (.slice rA tl.length rc) ∧ Go.VL.Var4 w (W.heap.size + 2) (.bool mb) (.int .i64 mn) (.string ms) (.int .i64 mq) ∧ Go.VL.Var4 w (W.heap.size + 3) (.bool fb) (.int .i64 fn) (.string fs) (.int .i64 fq) from fun w h => ⟨hv1.step h, hv2.step h, hv3.step h, hv4.step h⟩)
    have HB0 := Lib.hid hbX
    have HRR := Lib.hid (tr.step hbX)
    have hK := Lib.hid (kSch_any X0 v5 zx (rx.step hbX) wx)
    have HRL := Lib.hid (rl.step hbX)
    clear hv1 hv2 hv3 hv4 hb1 hb2 hb3 hbb hbc hbd hY1 hY2 hY3 hX0 hs1 hs2 hs3 hbX sr tr
    go_enter Try.func5, Try.ntmps5
    go_wp2_with fail
    rw [HX0.out]
    (with_reducible refine hK.out.mono ?_); rintro e w1 ⟨hb1, yv, ycs, yk, rfl, hoy, hko⟩
    have hyr := OwnC.read hoy
    obtain ⟨yA, yc, rfl, -, -, -⟩ := id hyr
    have hVy := Var2.new w1 (.slice yA ycs.length yc) (.int .i64 yk) 28
    have hba := (Below.refl w1.heap.size w1).alloc (Nat.le_refl _) (.cells #[.slice yA ycs.length yc, .int .i64 yk] 28)
    obtain ⟨X1, hX1⟩ : ∃ X, w1.alloc (.cells #[.slice yA ycs.length yc, .int .i64 yk] 28) = X := ⟨_, rfl⟩
    rw [hX1] at hVy hba
    have HX1 := Lib.hid hX1
    have hB1 := bel_trans hb1 hba
    have hyr1 := hyr.step hba
    have hL0 := kloose_any X1 ycs (.slice yA ycs.length yc) yk v6 zl 2 (by decide) hyr1 (kok_12 hko) (kok_ty hko) (HRL.out.step hB1) wl
    rw [show ((2 : Nat) : Int) = 2 from rfl] at hL0
    have hL := Lib.hid hL0
    clear hX1 hK hb1 hoy hba hyr hL0
    go_wp2_with fail
    rw [HX1.out]
    generalize Value.slice yA ycs.length yc = yv at *
    (with_reducible refine hL.out.mono ?_); rintro e w2 ⟨u, lz, rfl, hz, hzl, hok, hb2⟩
    have hB2 := bel_trans hB1 hb2
    have hy2 := hyr1.step hb2
    have hV2 := hVy.step hb2
    have hrd := hz.read
    obtain ⟨zA, zn, zc, rfl⟩ := ownRs_sl hz
    have hzn := hrd.len.1
    clear hL hyr1 hVy hz hB1 hb2
    by_cases h2 : zn = 2
    case neg =>
      have hd0 : ((zn : Int) == 2) = false := Go.VL.ieq_f (by omega)
      clear hrd hok hy2 hV2
      have HA := fun w => Lib.hid (awake15_any w)
      have R1 := fun w (h : Below w2.heap.size w2 w) => Lib.hid (hR1 w (HRR.out.step (bel_trans hB2 h)))
      have R2 := fun w (h : Below w2.heap.size w2 w) => Lib.hid (hR2 w (HRR.out.step (bel_trans hB2 h)))
      have Q1 := fun w => Lib.hid (bcmp_any typ mb mn ms mq fb fn fs fq w)
      have Q2 := fun w => Lib.hid (rcr_any typ mb mn ms mq fb fn fs fq w)
      have HVX := fun w (h : Below w2.heap.size w2 w) => Lib.hid (HV0.out w (bel_trans hB2 h))
      generalize cmpR typ ⟨mb, mn, ms⟩ mq ⟨fb, fn, fs⟩ fq = C0 at *
      have HBX := Lib.hid (bel_trans HB0.out hB2)
      clear hR1 hR2 hB2
      go_wp2_with fail
      refine Go.Confl.wp_region_confl (by simp only [List.map_cons, List.map_nil]; rfl) (by kernel_rfl) (by kernel_rfl) ?_
      iterate 22
        first
        | (refine Go.Confl.chain_skip (Go.Confl.unwanted_is rfl rfl) ?_)
        | (first | apply Go.Confl.chain_is _ (Go.Confl.wanted_none rfl) | apply Go.Confl.chain_is _ (Go.Confl.wanted_is rfl rfl)
           · intro b w hr hb K hK
             simp [Go.Confl.readFacts, Go.Confl.tmpsOf, Go.Confl.writerOf, Go.Confl.Is, Op.operands, Call.operands, List.findIdx?, List.findIdx?.go] at hr
             obtain ⟨⟨s0, s1, -, -⟩, ⟨r0, r1, -, -⟩, ⟨a0, a1, a2, a3⟩, ⟨f0, f1, f2, f3⟩⟩ := (HVX _ hb).out
             go_wp2_with (first
               | (go_at_call 16; (with_reducible refine (HA _).out.mono ?_); rintro e w' ⟨rfl, hb'⟩)
               | (go_at_call 22; (with_reducible refine (R1 _ hb).out.mono ?_); rintro e w' ⟨rfl, hb'⟩)
               | (go_at_call 20; (with_reducible refine (R2 _ hb).out.mono ?_); rintro e w' ⟨rfl, hb'⟩)
               | (go_at_call 23; (with_reducible refine (Q1 _).out.mono ?_); rintro e w' ⟨rfl, hb'⟩)
               | (go_at_call 24; (with_reducible refine (Q2 _).out.mono ?_); rintro e w' ⟨rfl, hb'⟩))
             try (simp only [hr]; go_wp2)
             exact hK _ _ rfl (by first | exact Below.refl _ _ | assumption))
        simp only [List.nil_append, List.cons_append]
      intro us w hp hb
      simp [Go.Confl.allPosts, Go.Confl.Is] at hp
      simp only [Go.Confl.putsFrom, hp, Act.put, List.setIfInBounds_toArray, List.set_cons_zero, List.set_cons_succ]
      go_wp2
      go_ret
      exact RetB.mk rfl (bel_trans HBX.out hb)
    
    have hd0 : ((zn : Int) == 2) = true := Go.VL.ieq_t (by omega)
    obtain ⟨p0, p1, rfl⟩ : ∃ p0 p1, lz = [p0, p1] := by
      match lz, (show lz.length = 2 by omega) with
      | [p0, p1], _ => exact ⟨p0, p1, rfl⟩
    obtain ⟨hk0, hk1⟩ := hko.2.2.2
    obtain ⟨k, rfl⟩ : ∃ k : Nat, yk = k := ⟨yk.toNat, by omega⟩
    have hkl : k < ycs.length := by omega
    have hl0 := (okRec_sound (hok p0 (by simp))).2.2
    have hl1 := (okRec_sound (hok p1 (by simp))).2.2
    obtain ⟨ad, eA, en, ec, rfl, hab, q0, q1, qr⟩ := hrd.at0
    obtain ⟨ad', gA, gn, gc, he, -, g0, g1, -, gr⟩ := hrd.at (i := 1) (r := p1) rfl
    cases he
    rw [show ad.add (1 * 2) = ⟨ad.block, ad.off + 2, none⟩ from rfl] at g0 g1
    have hR3 := fun w (h : Below w2.heap.size w2 w) => rof_at ycs yv k p0 _ w (hy2.step h) (qr.step h) (by rw [hl0]; exact hkl)
    have hR4 := fun w (h : Below w2.heap.size w2 w) => rof_at ycs yv k p1 _ w (hy2.step h) (gr.step h) (by rw [hl1]; exact hkl)
    obtain ⟨yA2, yc2, rfl, -, -, -⟩ := id hy2
    have hR5 : ∀ w (h : Below w2.heap.size w2 w), Calls Try.prog 22 #[.agg #[.slice yA2 ycs.length yc2, .int .i64 (k : Int)], .agg #[.int .i64 p0.seq, .slice eA en ec]] w (RetB (.agg #[.bool (keyV k p0).nu, .int .i64 (keyV k p0).n, .string (keyV k p0).s, .int .i64 p0.seq]) w) := fun w h => by
      obtain ⟨rA', rc', n1, he, h1, -, -⟩ := qr.bds
      cases he
      subst h1
      obtain ⟨e1, e2⟩ := rankV_in (k := k) (r := p0) (by rw [hl0]; exact hkl)
      have h3 := brank_any yA2 ycs.length yc2 k p0 eA ec w (qr.step h)
      rw [e1, e2] at h3
      exact h3
    have hKT := fun w (h : Below w2.heap.size w2 w) => keyt_any ycs _ k w (hy2.step h) hkl
    have hC1 := fun w => bcmp_any (ycs.getD k col0).ty (keyV k p0).nu (keyV k p0).n (keyV k p0).s p0.seq (keyV k p1).nu (keyV k p1).n (keyV k p1).s p1.seq w
    have hC2 := fun w => rcr_any (ycs.getD k col0).ty (keyV k p0).nu (keyV k p0).n (keyV k p0).s p0.seq (keyV k p1).nu (keyV k p1).n (keyV k p1).s p1.seq w
    have hC3 := fun w => bcmp_any (ycs.getD k col0).ty (keyV k p1).nu (keyV k p1).n (keyV k p1).s p1.seq (keyV k p0).nu (keyV k p0).n (keyV k p0).s p0.seq w
    have hneg := cmpR_neg (ycs.getD k col0).ty (keyV k p0) p0.seq (keyV k p1) p1.seq
    have hbd := cmpR_bd (ycs.getD k col0).ty (keyV k p0) p0.seq (keyV k p1) p1.seq
    have eta : ∀ x : Vl, (⟨x.nu, x.n, x.s⟩ : Vl) = x := fun _ => rfl
    simp only [eta] at hC1 hC2 hC3
    generalize cmpR (ycs.getD k col0).ty (keyV k p0) p0.seq (keyV k p1) p1.seq = C at *
    generalize cmpR (ycs.getD k col0).ty (keyV k p1) p1.seq (keyV k p0) p0.seq = D at *
    generalize (ycs.getD k col0).ty = TY at *
    generalize (keyV k p0).nu = c1 at *
    generalize (keyV k p0).n = c2 at *
    generalize (keyV k p0).s = c3 at *
    generalize (keyV k p1).nu = d1 at *
    generalize (keyV k p1).n = d2 at *
    generalize (keyV k p1).s = d3 at *
    generalize p0.seq = c4 at *
    generalize p1.seq = d4 at *
    have HU := Lib.hid (show ∀ w, Below w2.heap.size w2 w → Var2 w w1.heap.size (.slice yA2 ycs.length yc2) (.int .i64 (k : Int)) ∧ w.cell? ad = some (.int .i64 c4) ∧ w.cell? ⟨ad.block, ad.off + 1, none⟩ = some (.slice eA en ec) ∧ w.cell? ⟨ad.block, ad.off + 2, none⟩ = some (.int .i64 d4) ∧ w.cell? ⟨ad.block, ad.off + 2 + 1, none⟩ = some (.slice gA gn gc) from fun w h =>
      ⟨hV2.step h, by rw [h.cell (p := ad) hab]; exact q0, by rw [h.cell (p := ⟨ad.block, _, none⟩) hab]; exact q1, by rw [h.cell (p := ⟨ad.block, _, none⟩) hab]; exact g0, by rw [h.cell (p := ⟨ad.block, _, none⟩) hab]; exact g1⟩)
    have R3 := fun w h => Lib.hid (hR3 w h)
    have R4 := fun w h => Lib.hid (hR4 w h)
    have R5 := fun w h => Lib.hid (hR5 w h)
    have KT := fun w h => Lib.hid (hKT w h)
    have C1 := fun w => Lib.hid (hC1 w)
    have C2 := fun w => Lib.hid (hC2 w)
    have C3 := fun w => Lib.hid (hC3 w)
    have hwn : wrap64 D = D := by unfold wrap64; omega
    have HB2 := Lib.hid hB2; have HWN := Lib.hid hwn; have HNG := Lib.hid (show -C = D by omega)
    clear hR3 hR4 hR5 hKT hC1 hC2 hC3 hV2 hy2 hrd hok hl0 hl1 hkl hk0 hk1 hab q0 q1 g0 g1 qr gr eta hB2 hneg hbd hwn hzl hko
    go_wp2_with fail
    refine Go.ConflA.wp_region_tail_at 12 (by simp only [List.take_succ_cons, List.take_zero, List.map_cons, List.map_nil]; rfl) (by kernel_rfl) (by kernel_rfl) (by kernel_rfl) (by kernel_rfl) (by kernel_rfl) (Nat.zero_lt_succ _) (by kernel_rfl) ?_
    simp only [List.take_succ_cons, List.take_zero, List.drop_succ_cons, List.drop_zero]
    iterate 10
      first
      | (refine Go.ConflA.chainA_skip (Go.Confl.unwanted_is rfl rfl) ?_)
      | (first | apply Go.ConflA.chainA_is _ (Go.Confl.wanted_none rfl) | apply Go.ConflA.chainA_is _ (Go.Confl.wanted_is rfl rfl)
         · intro b w hr hb K hK
           simp [Go.Confl.readFacts, Go.Confl.tmpsOf, Go.Confl.writerOf, Go.Confl.Is, Op.operands, Call.operands, List.findIdx?, List.findIdx?.go] at hr
           obtain ⟨⟨y0, y1, -, -⟩, q0, q1, g0, g1⟩ := HU.out _ hb
           go_wp2_with (first
             | (go_at_call 20; (with_reducible refine (R3 _ hb).out.mono ?_); rintro e w' ⟨rfl, hb'⟩)
             | (go_at_call 20; (with_reducible refine (R4 _ hb).out.mono ?_); rintro e w' ⟨rfl, hb'⟩))
           try (simp only [hr]; go_wp2)
           exact hK _ _ rfl (by first | exact Below.refl _ _ | assumption))
      simp only [List.nil_append, List.cons_append]
    apply Go.ConflA.chainA_any (NewK w2) (NewK.stable w2) (Go.Confl.wanted_none rfl)
    · intro f w hr hb K hK
      go_wp2_with fail
      exact hK _ _ ⟨_, rfl, hb.size, Var4F.new w _ _ _ _ 43⟩ ((Below.refl _ _).alloc (Nat.le_refl _) _)
    simp only [List.nil_append, List.cons_append]
    apply Go.ConflA.chainA_any (NewK w2) (NewK.stable w2) (Go.Confl.wanted_none rfl)
    · intro f w hr hb K hK
      go_wp2_with fail
      exact hK _ _ ⟨_, rfl, hb.size, Var4F.new w _ _ _ _ 43⟩ ((Below.refl _ _).alloc (Nat.le_refl _) _)
    simp only [List.nil_append, List.cons_append]
    intro us w hp hdist hb
    simp [Go.Confl.allPosts, Go.Confl.Is] at hp
    simp only [Go.Confl.putsFrom, Act.put, List.setIfInBounds_toArray, List.set_cons_zero, List.set_cons_succ]
    change wpList _ _ _ _ _ _
    obtain ⟨e0, e1, e2, e3, e4, e5, e6, e7, e8, e9, ⟨p, e10, lp, Vp⟩, ⟨q, e11, lq, Vq⟩⟩ := hp
    have hpq : p ≠ q := dist_v (by have h := hdist 10 11 _ _ rfl rfl (by decide) rfl rfl; rw [e10, e11] at h; exact h)
    simp only [e0, e1, e2, e3, e4, e5, e6, e7, e8, e9, e10, e11]
    clear e0 e1 e2 e3 e4 e5 e6 e7 e8 e9 e10 e11 hdist R3 R4
    have hVp1 := Vp.set (.bool c1) (.int .i64 c2) (.string c3) (.int .i64 c4)
    have hVq1 := var4_oth4 Vq hpq.symm (.bool c1) (.int .i64 c2) (.string c3) (.int .i64 c4)
    have hb1 := set4_below hb lp (.bool c1) (.int .i64 c2) (.string c3) (.int .i64 c4)
    have hVp2 := var4_oth4 hVp1 hpq (.bool d1) (.int .i64 d2) (.string d3) (.int .i64 d4)
    have hVq2 := hVq1.set (.bool d1) (.int .i64 d2) (.string d3) (.int .i64 d4)
    have hb2 := set4_below hb1 lq (.bool d1) (.int .i64 d2) (.string d3) (.int .i64 d4)
    obtain ⟨x0, x1, x2, x3, xf0, xf1, xf2, xf3⟩ := Vp
    obtain ⟨z0, z1, z2, z3, zf0, zf1, zf2, zf3⟩ := hVq1
    obtain ⟨o0, o1, o2, o3, of0, of1, of2, of3⟩ := Vq
    clear hVp1 hb1
    go_upto_region 5 with fail
    clear x0 x1 x2 x3 xf0 xf1 xf2 xf3 z0 z1 z2 z3 zf0 zf1 zf2 zf3 o0 o1 o2 o3 of0 of1 of2 of3
    generalize ((((((((w.setCell ⟨p, 0, none⟩ (.bool c1)).setCell ⟨p, 1, none⟩ (.int .i64 c2)).setCell ⟨p, 2, none⟩ (.string c3)).setCell ⟨p, 3, none⟩ (.int .i64 c4)).setCell ⟨q, 0, none⟩ (.bool d1)).setCell ⟨q, 1, none⟩ (.int .i64 d2)).setCell ⟨q, 2, none⟩ (.string d3)).setCell ⟨q, 3, none⟩ (.int .i64 d4)) = X2 at *
    have hKt := Lib.hid (KT X2 hb2).out
    have HU2 := fun w' (h : Below X2.heap.size X2 w') => Lib.hid (And.intro (HU.out w' (bel_trans hb2 h)) (And.intro (hVp2.step h) (hVq2.step h)))
    have R5b := fun w' (h : Below X2.heap.size X2 w') => Lib.hid (R5 w' (bel_trans hb2 h)).out
    have HBX2 := Lib.hid hb2
    obtain ⟨⟨y0, y1, -, -⟩, -⟩ := HU.out X2 hb2
    clear hb hVp2 hVq2 hb2 KT R5
    go_wp2_with fail
    (with_reducible refine hKt.out.mono ?_); rintro e w3 ⟨rfl, hb3⟩
    have HU3 := fun w' (h : Below w3.heap.size w3 w') => Lib.hid (HU2 w' (bel_trans hb3 h)).out
    have R5c := fun w' (h : Below w3.heap.size w3 w') => Lib.hid (R5b w' (bel_trans hb3 h)).out
    have HB3 := Lib.hid (bel_trans HBX2.out hb3)
    have hwn := HWN.out
    have hng := HNG.out
    clear hKt y0 y1 HU2 R5b hb3
    go_wp2_with fail
    refine Go.Confl.wp_region_confl (by simp only [List.map_cons, List.map_nil]; rfl) (by kernel_rfl) (by kernel_rfl) ?_
    iterate 30
      first
      | (refine Go.Confl.chain_skip (Go.Confl.unwanted_is rfl rfl) ?_)
      | (first | apply Go.Confl.chain_is _ (Go.Confl.wanted_none rfl) | apply Go.Confl.chain_is _ (Go.Confl.wanted_is rfl rfl)
         · intro b w hr hb K hK
           simp [Go.Confl.readFacts, Go.Confl.tmpsOf, Go.Confl.writerOf, Go.Confl.Is, Op.operands, Call.operands, List.findIdx?, List.findIdx?.go] at hr
           obtain ⟨⟨⟨y0, y1, -, -⟩, q0, q1, g0, g1⟩, ⟨x0, x1, x2, x3, -, -, -, -⟩, ⟨z0, z1, z2, z3, -, -, -, -⟩⟩ := (HU3 _ hb).out
           go_wp2_with (first
             | (go_at_call 22; (with_reducible refine (R5c _ hb).out.mono ?_); rintro e w' ⟨rfl, hb'⟩)
             | (go_at_call 23; (with_reducible refine (C1 _).out.mono ?_); rintro e w' ⟨rfl, hb'⟩)
             | (go_at_call 24; (with_reducible refine (C2 _).out.mono ?_); rintro e w' ⟨rfl, hb'⟩)
             | (go_at_call 23; (with_reducible refine (C3 _).out.mono ?_); rintro e w' ⟨rfl, hb'⟩))
           try (simp only [hr]; go_wp2)
           exact hK _ _ rfl (by first | exact Below.refl _ _ | assumption))
      simp only [List.nil_append, List.cons_append]
    intro us w hp hb
    simp [Go.Confl.allPosts, Go.Confl.Is] at hp
    simp only [Go.Confl.putsFrom, hp, Act.put, List.setIfInBounds_toArray, List.set_cons_zero, List.set_cons_succ]
    have hBZ := bel_trans HB2.out (bel_trans HB3.out hb)
    clear hb HU3 R5c C1 C2 C3
    obtain ⟨WZ, rfl⟩ : ∃ WZ, WZ = w := ⟨_, rfl⟩
    have HA := fun w => Lib.hid (awake15_any w)
    have R1 := fun w (h : Below WZ.heap.size WZ w) => Lib.hid (hR1 w (HRR.out.step (bel_trans hBZ h)))
    have R2 := fun w (h : Below WZ.heap.size WZ w) => Lib.hid (hR2 w (HRR.out.step (bel_trans hBZ h)))
    have Q1 := fun w => Lib.hid (bcmp_any typ mb mn ms mq fb fn fs fq w)
    have Q2 := fun w => Lib.hid (rcr_any typ mb mn ms mq fb fn fs fq w)
    have HVX := fun w (h : Below WZ.heap.size WZ w) => Lib.hid (HV0.out w (bel_trans hBZ h))
    generalize cmpR typ ⟨mb, mn, ms⟩ mq ⟨fb, fn, fs⟩ fq = C0 at *
    have HBX := Lib.hid (bel_trans HB0.out hBZ)
    clear hR1 hR2 hBZ
    go_wp2_with fail
    refine Go.Confl.wp_region_confl (by simp only [List.map_cons, List.map_nil]; rfl) (by kernel_rfl) (by kernel_rfl) ?_
    iterate 22
      first
      | (refine Go.Confl.chain_skip (Go.Confl.unwanted_is rfl rfl) ?_)
      | (first | apply Go.Confl.chain_is _ (Go.Confl.wanted_none rfl) | apply Go.Confl.chain_is _ (Go.Confl.wanted_is rfl rfl)
         · intro b w hr hb K hK
           simp [Go.Confl.readFacts, Go.Confl.tmpsOf, Go.Confl.writerOf, Go.Confl.Is, Op.operands, Call.operands, List.findIdx?, List.findIdx?.go] at hr
           obtain ⟨⟨s0, s1, -, -⟩, ⟨r0, r1, -, -⟩, ⟨a0, a1, a2, a3⟩, ⟨f0, f1, f2, f3⟩⟩ := (HVX _ hb).out
           go_wp2_with (first
             | (go_at_call 16; (with_reducible refine (HA _).out.mono ?_); rintro e w' ⟨rfl, hb'⟩)
             | (go_at_call 22; (with_reducible refine (R1 _ hb).out.mono ?_); rintro e w' ⟨rfl, hb'⟩)
             | (go_at_call 20; (with_reducible refine (R2 _ hb).out.mono ?_); rintro e w' ⟨rfl, hb'⟩)
             | (go_at_call 23; (with_reducible refine (Q1 _).out.mono ?_); rintro e w' ⟨rfl, hb'⟩)
             | (go_at_call 24; (with_reducible refine (Q2 _).out.mono ?_); rintro e w' ⟨rfl, hb'⟩))
           try (simp only [hr]; go_wp2)
           exact hK _ _ rfl (by first | exact Below.refl _ _ | assumption))
      simp only [List.nil_append, List.cons_append]
    intro us w hp hb
    simp [Go.Confl.allPosts, Go.Confl.Is] at hp
    simp only [Go.Confl.putsFrom, hp, Act.put, List.setIfInBounds_toArray, List.set_cons_zero, List.set_cons_succ]
    go_wp2
    go_ret
    exact RetB.mk rfl (bel_trans HBX.out hb)
theorem batchRanks_holds : Rows.BatchRanksSaid :=
  OpenClaim.holds_of_wide 5 Try.f5 rfl rfl rfl rfl rfl rfl rfl ⟨rfl, rfl, rfl, rfl, rfl⟩ rfl rfl rfl rfl rfl (by kernel_rfl) Try.func5 (by kernel_rfl)
    (of_decide_eq_true (by kernel_rfl)) (by unfold Func.isWrapper; first | (rw [if_pos (by decide +kernel)]; kernel_rfl) | (rw [if_neg (by decide +kernel)]; exact ⟨rfl, rfl⟩))
    (fun os started H enc _ => batchRanks_lifted os started H enc)
end Go.Proofs.Ytjbkeipagdmlpaa
