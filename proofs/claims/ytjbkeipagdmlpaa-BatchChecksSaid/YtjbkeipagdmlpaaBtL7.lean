/- BatchChecks. -/
import Derived.Test.YtjbkeipagdmlpaaBtP
import Derived.Test.YtjbkeipagdmlpaaBtO
import Derived.Test.YtjbkeipagdmlpaaBt2
namespace Go.Proofs.Ytjbkeipagdmlpaa
open Go.RowKit Go.VB Go.VS Go.SC Go.CK Go.ST Go.MK Go.RS Go.ChangeShapes Go.WideShapes Go.ChangeAt
set_option linter.constructorNameAsVariable false
set_option maxRecDepth 100000 in
set_option maxHeartbeats 4000000 in
theorem batchChecks_lifted (os : Os) (started : os.Started) (H : Type) (enc : TypeId × Value → H) :
    ReturnsInHanded {} Try.checked os 4 .any (Rows.batchChecksSpec.pre6 enc Try.prog Try.f4 Rows.batchChecksRow.domain false) (Rows.batchChecksSpec.post enc Try.prog Try.f4 false true false false) := by
  refine law_lifted (C := Try.checked) (tb := 4) started Try.own Try.laidOut (by kernel_rfl) Try.func4
    (ChangeSpec.witness6 (enc := enc) (C := Try.checked) false ⟨#[], #[.agg #[.slice none 0 0, .int .i64 0], .slice none 0 0, .slice none 0 0, .slice none 0 0, .int .i64 0, .int .i64 0, .agg #[.bool false, .int .i64 0, .string ⟨#[]⟩], .bool false], []⟩ 8 (by kernel_rfl) (by kernel_rfl) (by kernel_rfl) (by kernel_rfl))
    rfl rfl Try.underlying4 (by kernel_rfl) (fun ds h => ?_) (fun W base args ds p hval0 hA0 hsz0 hlt => ?_)
  · have h' : ds.length = Try.f4.params.toList.length := h
    rw [Try.params4] at h'
    match ds, h' with
    | [_, _, _, _, _, _, _, _], _ => rfl
  · have hval : ∀ (j : Nat) t v, Try.f4.params[j]? = some t → args[j]? = some v → Value.okWide Try.prog W .any base t v := hval0
    have hA : DataW.TrodAll enc Try.prog W 0 (fun _ => true) true Try.f4.params.toList args.toList ds p := hA0
    have hsz : (DataW.weightsEach Try.prog Try.f4.params.toList ds).all (· ≤ reachBytes) = true := hsz0
    rw [Try.params4] at hA hval hsz
    clear hA0 hval0 hsz0
    obtain ⟨v0, vs0, d0, ds0, p0, q0, hargs, rfl, rfl, h0, r0⟩ := trodAll_cons hA
    obtain ⟨v1, vs1, d1, ds1, p1, q1, rfl, rfl, rfl, h1, r1⟩ := trodAll_cons r0
    obtain ⟨v2, vs2, d2, ds2, p2, q2, rfl, rfl, rfl, h2, r2⟩ := trodAll_cons r1
    obtain ⟨v3, vs3, d3, ds3, p3, q3, rfl, rfl, rfl, h3, r3⟩ := trodAll_cons r2
    obtain ⟨v4, vs4, d4, ds4, p4, q4, rfl, rfl, rfl, h4, r4⟩ := trodAll_cons r3
    obtain ⟨v5, vs5, d5, ds5, p5, q5, rfl, rfl, rfl, h5, r5⟩ := trodAll_cons r4
    obtain ⟨v6, vs6, d6, ds6, p6, q6, rfl, rfl, rfl, h6, r6⟩ := trodAll_cons r5
    obtain ⟨v7, vs7, d7, ds7, p7, q7, rfl, rfl, rfl, h7, r7⟩ := trodAll_cons r6
    obtain ⟨rfl, rfl, rfl⟩ := trodAll_nil r7
    obtain rfl : args = #[v0, v1, v2, v3, v4, v5, v6, v7] := by cases args; simp_all
    obtain ⟨sv, scs, sk, rfl, sr, wsk⟩ := open_sch (hval 0 28 v0 rfl rfl) h0
    obtain ⟨zraw, rraw⟩ := open_lls (hval 1 29 v1 rfl rfl) h1
    obtain ⟨zx, rx, wx, bx⟩ := open_rdI Try.underlying30 Try.underlying3 (by kernel_rfl) (hval 2 30 v2 rfl rfl) h2 hsz (j := 2) rfl rfl
    obtain ⟨zl, rl, wl, bl⟩ := open_rdI Try.underlying30 Try.underlying3 (by kernel_rfl) (hval 3 30 v3 rfl rfl) h3 hsz (j := 3) rfl rfl
    obtain ⟨p, rfl, rfl, rfl, wp⟩ := open_int Try.underlying3 (hval 4 3 v4 rfl rfl) h4
    obtain ⟨c, rfl, rfl, rfl, wc⟩ := open_int Try.underlying3 (hval 5 3 v5 rfl rfl) h5
    obtain ⟨fb, fn, fs, rfl, wfn, zfs⟩ := open_val (hval 6 32 v6 rfl rfl) h6
    obtain ⟨cu, rfl, rfl, rfl⟩ := open_bool Try.underlying4 (hval 7 4 v7 rfl rfl) h7
    change Calls Try.prog 4 #[(.agg #[sv, .int .i64 sk]), v1, v2, v3, .int .i64 p, .int .i64 c, (.agg #[.bool fb, .int .i64 fn, .string fs]), .bool cu] W (RetB (.bool true) W)
    have hP := fun w (n : Nat) (h1 : 1 ≤ n) (h2 : n ≤ 100) => Lib.hid (pick_at p n w wp (by omega) (by omega))
    have hPb := fun (n : Nat) (h : 1 ≤ n) => pickN_bd p (n := n) (by omega)
    have hC := fun w (n : Nat) (h1 : 1 ≤ n) (h2 : n ≤ 100) => Lib.hid (pick_at c n w wc (by omega) (by omega))
    have hCb := fun (n : Nat) (h : 1 ≤ n) => pickN_bd c (n := n) (by omega)
    have hVs0 := Var2.new W sv (.int .i64 sk) 28
    have hB0a : Below W.heap.size W (W.alloc (.cells #[sv, .int .i64 sk] 28)) := (Below.refl _ _).alloc (Nat.le_refl _) _
    have hVs0' := hVs0.step ((Below.refl _ _).alloc (Nat.le_refl _) (.cells #[.bool fb, .int .i64 fn, .string fs] 32))
    have hBs0 := hB0a.alloc hB0a.size (.cells #[.bool fb, .int .i64 fn, .string fs] 32)
    have hVa0 := Go.VL.Var3.new (W.alloc (.cells #[sv, .int .i64 sk] 28)) (.bool fb) (.int .i64 fn) (.string fs) 32
    rw [show (W.alloc (.cells #[sv, .int .i64 sk] 28)).heap.size = W.heap.size + 1 from by simp] at hVa0
    obtain ⟨X0, hX0⟩ : ∃ X, (W.alloc (.cells #[sv, .int .i64 sk] 28)).alloc (.cells #[.bool fb, .int .i64 fn, .string fs] 32) = X := ⟨_, rfl⟩
    rw [hX0] at hVs0' hBs0 hVa0
    have HX0 := Lib.hid hX0
    clear hX0 hVs0 hB0a
    have hK := Lib.hid (kSch_any X0 v2 zx (rx.step hBs0) wx)
    go_enter Try.func4, Try.ntmps4
    go_wp2_with fail
    rw [HX0.out]
    (with_reducible refine hK.out.mono ?_); rintro e w1 ⟨hb1, yv, ycs, yk, rfl, hoy, hko⟩
    have hyr := OwnC.read hoy
    obtain ⟨yA, yc, rfl, -, -, -⟩ := id hyr
    have hVy := Var2.new w1 (.slice yA ycs.length yc) (.int .i64 yk) 28
    have hba := (Below.refl w1.heap.size w1).alloc (Nat.le_refl _) (.cells #[.slice yA ycs.length yc, .int .i64 yk] 28)
    obtain ⟨X1, hX1⟩ : ∃ X, w1.alloc (.cells #[.slice yA ycs.length yc, .int .i64 yk] 28) = X := ⟨_, rfl⟩
    rw [hX1] at hVy hba
    have HX1 := Lib.hid hX1
    have hBX1 := bel_trans hb1 hba
    have hB1 := bel_trans hBs0 hBX1
    have hyr1 := hyr.step hba
    have hL0 := krows_any X1 ycs (.slice yA ycs.length yc) yk v3 zl 6 (by decide) hyr1 (kok_12 hko) (kok_ty hko) (rl.step hB1) wl
    rw [show ((6 : Nat) : Int) = 6 from rfl] at hL0
    have hL := Lib.hid hL0
    have hVs1 := hVs0'.step hBX1
    have hVa1 := hVa0.step hBX1
    clear hX1 hK hb1 hoy hba hyr hL0 hVs0' hVa0 hBX1
    go_wp2_with fail
    rw [HX1.out]
    generalize Value.slice yA ycs.length yc = yv at *
    (with_reducible refine hL.out.mono ?_); rintro e w2 ⟨u, ps, ls, rfl, ho, hd, hln, hck, hb2⟩
    have HVY := Lib.hid hVy; have HSR := Lib.hid (sr.step hB1); have HRAW := Lib.hid (rraw.step hB1); have HY1 := Lib.hid hyr1; have HBX1 := Lib.hid hB1
    have HD := Lib.hid hd; have HOW := Lib.hid ho
    obtain ⟨uA, un, uc, rfl⟩ : ∃ A n c, u = .slice A n c := by
      rcases ho.forms with ⟨rfl, _⟩ | ⟨g, c, rfl, _⟩
      · exact ⟨_, _, _, rfl⟩
      · exact ⟨_, _, _, rfl⟩
    have hun : un = ps.length := by
      obtain ⟨A, c, he, _⟩ := ho.read
      cases he; rfl
    have hpl := hd.1
    have hun6 : un ≤ 6 := by omega
    have HUN := Lib.hid hun
    have hkps : ∀ k, k < un → k < ps.length ∧ k < ls.length := fun k hk => by omega
    have HKPS := Lib.hid hkps
    clear hun hpl hkps
    clear hL hVy hyr1 hB1 hd ho
    by_cases h0 : un = 0
    · subst h0
      have hd0 : decide ((0 : Int) < ((0 : Nat) : Int)) = false := by decide
      have hd0' : decide (0 < 0) = false := by decide
      have hls3 : RdLL w2 w2.heap.size (.slice uA 0 uc) ls := ⟨ps, HOW.out.read, HD.out.read⟩
      have hVs3 := hVs1.step hb2
      have hV3 := HVY.out.step hb2
      have hsr3 := HSR.out.step hb2
      have hraw3 := HRAW.out.step hb2
      have hy3 := HY1.out.step hb2
      have hB3 := bel_trans HBX1.out hb2
      clear hP hC hPb hCb hVs1 hVa1
      have HVX := fun w (h : Below w2.heap.size w2 w) => Lib.hid (And.intro (hVs3.step h) (hV3.step h))
      have HA := fun w => Lib.hid (awake15_any w)
      have C1 := fun w (h : Below w2.heap.size w2 w) => Lib.hid (cbat_any scs sv sk v1 zraw w (hsr3.step h) (hraw3.step h))
      have C2 := fun w (h : Below w2.heap.size w2 w) => Lib.hid (rcbat_any scs sv sk v1 zraw w (hsr3.step h) (hraw3.step h))
      have C3 := fun w (h : Below w2.heap.size w2 w) => Lib.hid (cbat_any ycs yv yk _ _ w (hy3.step h) (hls3.step h))
      have C4 := fun w (h : Below w2.heap.size w2 w) => Lib.hid (rcbat_any ycs yv yk _ _ w (hy3.step h) (hls3.step h))
      have C5 := fun w (h : Below w2.heap.size w2 w) => Lib.hid (cbat_any ycs yv yk v1 zraw w (hy3.step h) (hraw3.step h))
      have C6 := fun w (h : Below w2.heap.size w2 w) => Lib.hid (rcbat_any ycs yv yk v1 zraw w (hy3.step h) (hraw3.step h))
      generalize chkB scs sk zraw = E1 at *
      generalize chkB ycs yk ls = E2 at *
      generalize chkB ycs yk zraw = E3 at *
      have HB3 := Lib.hid hB3
      clear hVs3 hV3 hsr3 hraw3 hy3 hls3 hB3
      go_wp2_with fail
      refine Go.Confl.wp_region_confl (by simp only [List.map_cons, List.map_nil]; rfl) (by kernel_rfl) (by kernel_rfl) ?_
      iterate 29
        first
        | (refine Go.Confl.chain_skip (Go.Confl.unwanted_is rfl rfl) ?_)
        | (first | apply Go.Confl.chain_is _ (Go.Confl.wanted_none rfl) | apply Go.Confl.chain_is _ (Go.Confl.wanted_is rfl rfl)
           · intro b w hr hb K hK
             simp [Go.Confl.readFacts, Go.Confl.tmpsOf, Go.Confl.writerOf, Go.Confl.Is, Op.operands, Call.operands, List.findIdx?, List.findIdx?.go] at hr
             obtain ⟨⟨s0, s1, -, -⟩, ⟨y0, y1, -, -⟩⟩ := (HVX _ hb).out
             go_wp2_with (first
               | (go_at_call 16; (with_reducible refine (HA _).out.mono ?_); rintro e w' ⟨rfl, hb'⟩)
               | (go_at_call 17; (with_reducible refine (C1 _ hb).out.mono ?_); rintro e w' ⟨rfl, hb'⟩)
               | (go_at_call 18; (with_reducible refine (C2 _ hb).out.mono ?_); rintro e w' ⟨rfl, hb'⟩)
               | (go_at_call 17; (with_reducible refine (C3 _ hb).out.mono ?_); rintro e w' ⟨rfl, hb'⟩)
               | (go_at_call 18; (with_reducible refine (C4 _ hb).out.mono ?_); rintro e w' ⟨rfl, hb'⟩)
               | (go_at_call 17; (with_reducible refine (C5 _ hb).out.mono ?_); rintro e w' ⟨rfl, hb'⟩)
               | (go_at_call 18; (with_reducible refine (C6 _ hb).out.mono ?_); rintro e w' ⟨rfl, hb'⟩))
             try (simp only [hr]; go_wp2)
             exact hK _ _ rfl (by first | exact Below.refl _ _ | assumption))
        simp only [List.nil_append, List.cons_append]
      intro us w hp hb
      simp [Go.Confl.allPosts, Go.Confl.Is] at hp
      simp only [Go.Confl.putsFrom, hp, Act.put, List.setIfInBounds_toArray, List.set_cons_zero, List.set_cons_succ]
      go_wp2
      go_ret
      exact RetB.mk rfl (bel_trans HB3.out hb)
    
    have hd0 : decide ((0 : Int) < (un : Int)) = true := decide_eq_true (by omega)
    have hd0' : decide (0 < un) = true := decide_eq_true (by omega)
    have hpk := hP
    obtain ⟨pk1, pk2⟩ := hPb un (by omega)
    have HPK := fun w => hP w un (by omega) (by omega)
    obtain ⟨k1, hk1⟩ : ∃ k1, pickN p un = k1 := ⟨_, rfl⟩
    simp only [hk1] at pk1 pk2 HPK
    obtain ⟨k, rfl⟩ : ∃ k : Nat, k1 = k := ⟨k1.toNat, by omega⟩
    have hku : k < un := by omega
    have hkp : k < ps.length := (HKPS.out k hku).1
    obtain ⟨R0, hR0⟩ : ∃ R, ls[k]? = some R := ⟨ls[k]'(HKPS.out k hku).2, List.getElem?_eq_getElem _⟩
    have hRc : chkRow ycs R0 = 0 := hck R0 (List.mem_of_getElem? hR0)
    have hRl := chkRow_zero hRc
    have hR1 : 1 ≤ R0.length := by rw [hRl]; exact hko.1
    have hR12 : R0.length ≤ 12 := by rw [hRl]; exact kok_12 hko
    obtain ⟨q0, hq0⟩ : ∃ q, ps[k]? = some q := ⟨ps[k], List.getElem?_eq_getElem hkp⟩
    have hqo := HD.out.2 k q0 R0 hq0 hR0
    obtain ⟨qA0, qn0, qc0⟩ := q0
    obtain ⟨gd, rfl, hgb, kq0⟩ : ∃ ad, uA = some ad ∧ ad.block < w2.heap.size ∧ w2.cell? (ad.add k) = some (.slice qA0 qn0 qc0) := by
      obtain ⟨A, c, he, _, _, hr⟩ := HOW.out.read
      cases he
      exact hr k _ hq0
    have HQR := Lib.hid (rdK_L (OwnL.read hqo))
    have hki : (k : Int) < (un : Int) := by omega
    have HT1 := Lib.hid (show ([] : List Vl).length + R0.length ≤ maxLen by unfold maxLen; simp only [List.length_nil]; omega)
    have HT2 := Lib.hid (show (([] : List Vl).length + R0.length) * 32 ≤ 140737488355328 by simp only [List.length_nil]; omega)
    clear hP hPb hpk hR0 hq0 hqo hgb hRc hck hk1
    go_wp2_with fail
    (with_reducible refine (HPK _).out.mono ?_); rintro e w2' ⟨rfl, rfl⟩
    go_wp2_with (at_builtin; refine wpl_appK (L := valL) rfl _ _ 36 rfl w2.heap.size 32 32 Try.underlying36 Try.infVal (.slice none 0 0) [] rfl (OwnK.nil _ _ _ _) w2.heap.size _ R0 rfl HQR.out HT1.out HT2.out (Nat.le_refl _) ?_)
    intro v4 w4 ho4 hb4 _
    obtain ⟨g4, c4, rfl, hrow4⟩ := ownL_some ho4 (fun e => by rw [e] at hR1; simp at hR1)
    have hc4 : R0.length ≤ c4 := by
      obtain ⟨A', c', n', he, h1, h2, _⟩ := (OwnL.read hrow4).bds
      cases he; omega
    have hBr4 := hb4
    clear ho4 kq0 HPK HQR HT1 HT2 hb4
    cases cu with
    | true =>
      obtain ⟨c1, c2⟩ := hCb (R0.length + 1) (by omega)
      have HPC := fun w => hC w (R0.length + 1) (by omega) (by omega)
      obtain ⟨i1, hi1⟩ : ∃ i1, pickN c ((R0.length + 1 : Nat) : Int) = i1 := ⟨_, rfl⟩
      simp only [hi1] at c1 c2 HPC
      obtain ⟨i, rfl⟩ : ∃ i : Nat, i1 = i := ⟨i1.toNat, by omega⟩
      have hile : i ≤ R0.length := by omega
      have hic : i ≤ c4 := by omega
      rw [show ((R0.length + 1 : Nat) : Int) = (R0.length : Int) + 1 from by omega] at HPC
      have HRr : ∀ w, OwnL 32 w w2.heap.size (.slice (some ⟨g4, 0, none⟩) R0.length c4) R0 → RdL w w.heap.size (.slice (some ⟨g4, 0, none⟩) i c4) (R0.take i) := fun w h => by
        have hl : (R0.take i).length = i := by rw [List.length_take]; omega
        have h2 := (OwnL.read h).head (m := R0.take i) (by rw [hl]) (by rw [hl]; exact hile)
        rw [hl] at h2
        exact h2
      have HO4 := Lib.hid hrow4
      have HBr4 := Lib.hid hBr4
      clear hi1 c1 c2 hC hCb hVa1 hrow4 hBr4
      obtain ⟨n4, hn4⟩ : ∃ n4, R0.length = n4 := ⟨_, rfl⟩
      rw [hn4] at HPC hile hc4 hR1 hR12 ⊢
      clear hn4
      go_wp2_with fail
      (with_reducible refine (HPC _).out.mono ?_); rintro e w4' ⟨rfl, rfl⟩
      obtain ⟨w5, rfl⟩ : ∃ w5, w5 = w4 := ⟨_, rfl⟩
      obtain ⟨R, hR⟩ : ∃ R, R0.take i = R := ⟨_, rfl⟩
      have HBr := HBr4
      have HO5 := Lib.hid (show OwnL 32 w5 w2.heap.size (.slice (some ⟨g4, 0, none⟩) R0.length c4) R0 from HO4.out)
      simp only [hR] at HRr
      clear HPC HO4 HBr4 hR
      have HOW5 := Lib.hid (HOW.out.below HBr.out)
      obtain ⟨g, cc, he, hrow, -⟩ := ownV_some HOW5.out (fun e => by rw [e] at hkp; simp at hkp)
      cases he
      have hkl : k < ps.length := hkp
      obtain ⟨q, hq⟩ : ∃ q, ps[k]? = some q := ⟨ps[k], List.getElem?_eq_getElem hkl⟩
      have k5 := RowV.cell hrow k q hq
      obtain ⟨qA, qn, qc⟩ := q
      replace k5 : w5.cell? ⟨g, k, none⟩ = some (.slice qA qn qc) := k5
      have f5 := RowV.frozen hrow k
      have hst := RowV.store hrow k (⟨(some ⟨g4, 0, none⟩), i, c4⟩ : Sl)
      have hls3 : RdLL (w5.setCell ⟨g, k, none⟩ (.slice (some ⟨g4, 0, none⟩) i c4)) (w5.setCell ⟨g, k, none⟩ (.slice (some ⟨g4, 0, none⟩) i c4)).heap.size (.slice (some ⟨g, 0, none⟩) ps.length uc) (ls.set k R) := ⟨ps.set k ⟨(some ⟨g4, 0, none⟩), i, c4⟩, by
        have h := (RowV.own_at hst (n := ps.length) (by rw [List.length_set]) rfl).read
        exact h, by
        refine ⟨by rw [List.length_set, List.length_set]; exact HD.out.1, fun i' p l h1 h2 => ?_⟩
        by_cases hi : k = i'
        · subst hi
          rw [List.getElem?_set_self hkl] at h1
          rw [List.getElem?_set_self (by rw [← HD.out.1]; exact hkl)] at h2
          cases h1; cases h2
          exact HRr _ (own_setApart HO5.out hrow (by decide) k _)
        · rw [List.getElem?_set_ne hi] at h1 h2
          have h := (HD.out.2 i' p l h1 h2).below HBr.out
          exact OwnL.read (show OwnL 32 _ _ _ _ from own_setApart h hrow (by decide) k _)⟩
      have hg2 : X1.heap.size ≤ g := (RowV.lt hrow).1
      have hbS : Below X1.heap.size X1 (w5.setCell ⟨g, k, none⟩ (.slice (some ⟨g4, 0, none⟩) i c4)) := ((hb2.trans (HBr.out.mono hb2.size)).setCell (p := ⟨g, k, none⟩) hg2 _)
      have hVs3 := hVs1.step hbS
      have hV3 := HVY.out.step hbS
      have hsr3 := HSR.out.step hbS
      have hraw3 := HRAW.out.step hbS
      have hy3 := HY1.out.step hbS
      have hB3 := bel_trans HBX1.out hbS
      have hkm : (k : Int) < (ps.length : Int) := by omega
      have hkm' : k < ps.length := hkl
      clear hst hrow hq hkl HOW5 HRr hbS HO5
      generalize ps.length = m at *
      go_upto_region 10 with fail
      obtain ⟨X, hX⟩ : ∃ X, w5.setCell ⟨g, k, none⟩ (.slice (some ⟨g4, 0, none⟩) i c4) = X := ⟨_, rfl⟩
      rw [hX] at hls3 hVs3 hV3 hsr3 hraw3 hy3 hB3 ⊢
      clear hX k5 f5
      obtain ⟨LS, hLS⟩ : ∃ LS, ls.set k R = LS := ⟨_, rfl⟩
      rw [hLS] at hls3
      clear hLS
      have HVX := fun w (h : Below X.heap.size X w) => Lib.hid (And.intro (hVs3.step h) (hV3.step h))
      have HA := fun w => Lib.hid (awake15_any w)
      have C1 := fun w (h : Below X.heap.size X w) => Lib.hid (cbat_any scs sv sk v1 zraw w (hsr3.step h) (hraw3.step h))
      have C2 := fun w (h : Below X.heap.size X w) => Lib.hid (rcbat_any scs sv sk v1 zraw w (hsr3.step h) (hraw3.step h))
      have C3 := fun w (h : Below X.heap.size X w) => Lib.hid (cbat_any ycs yv yk _ _ w (hy3.step h) (hls3.step h))
      have C4 := fun w (h : Below X.heap.size X w) => Lib.hid (rcbat_any ycs yv yk _ _ w (hy3.step h) (hls3.step h))
      have C5 := fun w (h : Below X.heap.size X w) => Lib.hid (cbat_any ycs yv yk v1 zraw w (hy3.step h) (hraw3.step h))
      have C6 := fun w (h : Below X.heap.size X w) => Lib.hid (rcbat_any ycs yv yk v1 zraw w (hy3.step h) (hraw3.step h))
      generalize chkB scs sk zraw = E1 at *
      generalize chkB ycs yk LS = E2 at *
      generalize chkB ycs yk zraw = E3 at *
      have HB3 := Lib.hid hB3
      clear hVs3 hV3 hsr3 hraw3 hy3 hls3 hB3
      go_wp2_with fail
      refine Go.Confl.wp_region_confl (by simp only [List.map_cons, List.map_nil]; rfl) (by kernel_rfl) (by kernel_rfl) ?_
      iterate 29
        first
        | (refine Go.Confl.chain_skip (Go.Confl.unwanted_is rfl rfl) ?_)
        | (first | apply Go.Confl.chain_is _ (Go.Confl.wanted_none rfl) | apply Go.Confl.chain_is _ (Go.Confl.wanted_is rfl rfl)
           · intro b w hr hb K hK
             simp [Go.Confl.readFacts, Go.Confl.tmpsOf, Go.Confl.writerOf, Go.Confl.Is, Op.operands, Call.operands, List.findIdx?, List.findIdx?.go] at hr
             obtain ⟨⟨s0, s1, -, -⟩, ⟨y0, y1, -, -⟩⟩ := (HVX _ hb).out
             go_wp2_with (first
               | (go_at_call 16; (with_reducible refine (HA _).out.mono ?_); rintro e w' ⟨rfl, hb'⟩)
               | (go_at_call 17; (with_reducible refine (C1 _ hb).out.mono ?_); rintro e w' ⟨rfl, hb'⟩)
               | (go_at_call 18; (with_reducible refine (C2 _ hb).out.mono ?_); rintro e w' ⟨rfl, hb'⟩)
               | (go_at_call 17; (with_reducible refine (C3 _ hb).out.mono ?_); rintro e w' ⟨rfl, hb'⟩)
               | (go_at_call 18; (with_reducible refine (C4 _ hb).out.mono ?_); rintro e w' ⟨rfl, hb'⟩)
               | (go_at_call 17; (with_reducible refine (C5 _ hb).out.mono ?_); rintro e w' ⟨rfl, hb'⟩)
               | (go_at_call 18; (with_reducible refine (C6 _ hb).out.mono ?_); rintro e w' ⟨rfl, hb'⟩))
             try (simp only [hr]; go_wp2)
             exact hK _ _ rfl (by first | exact Below.refl _ _ | assumption))
        simp only [List.nil_append, List.cons_append]
      intro us w hp hb
      simp [Go.Confl.allPosts, Go.Confl.Is] at hp
      simp only [Go.Confl.putsFrom, hp, Act.put, List.setIfInBounds_toArray, List.set_cons_zero, List.set_cons_succ]
      go_wp2
      go_ret
      exact RetB.mk rfl (bel_trans HB3.out hb)
    | false =>
      obtain ⟨c1, c2⟩ := hCb R0.length hR1
      have HPC := fun w => hC w R0.length hR1 (by omega)
      obtain ⟨i1, hi1⟩ : ∃ i1, pickN c (R0.length : Int) = i1 := ⟨_, rfl⟩
      simp only [hi1] at c1 c2 HPC
      obtain ⟨i, rfl⟩ : ∃ i : Nat, i1 = i := ⟨i1.toNat, by omega⟩
      have hile : i < R0.length := by omega
      obtain ⟨x0, hx0⟩ : ∃ x, R0[i]? = some x := ⟨R0[i], List.getElem?_eq_getElem hile⟩
      have HU := Lib.hid (show ∀ w, Below w4.heap.size w4 w → Go.VL.Var3 w (W.heap.size + 1) (.bool fb) (.int .i64 fn) (.string fs) ∧ RowL 32 w w2.heap.size g4 c4 R0 from fun w h => ⟨(hVa1.step hb2).step (hBr4.trans (h.mono hBr4.size)), RowL.below hrow4 h⟩)
      have HBr4 := Lib.hid hBr4; have HX0i := Lib.hid hx0
      have hii : (i : Int) < (R0.length : Int) := by omega
      clear hi1 c1 c2 hC hCb hVa1 hrow4 hBr4 hx0
      obtain ⟨n4, hn4⟩ : ∃ n4, R0.length = n4 := ⟨_, rfl⟩
      have HN4 := Lib.hid hn4
      rw [hn4] at HPC hile hii hc4 hR1 hR12 ⊢
      clear hn4
      go_wp2_with fail
      refine Go.ConflA.wp_region_tail_at 7 (by simp only [List.take_succ_cons, List.take_zero, List.map_cons, List.map_nil]; rfl) (by kernel_rfl) (by kernel_rfl) (by kernel_rfl) (by kernel_rfl) (by kernel_rfl) (Nat.zero_lt_succ _) (by kernel_rfl) ?_
      simp only [List.take_succ_cons, List.take_zero, List.drop_succ_cons, List.drop_zero]
      iterate 7
        first
        | (refine Go.ConflA.chainA_skip (Go.Confl.unwanted_is rfl rfl) ?_)
        | (first | apply Go.ConflA.chainA_is _ (Go.Confl.wanted_none rfl) | apply Go.ConflA.chainA_is _ (Go.Confl.wanted_is rfl rfl)
           · intro b w hr hb K hK
             simp [Go.Confl.readFacts, Go.Confl.tmpsOf, Go.Confl.writerOf, Go.Confl.Is, Op.operands, Call.operands, List.findIdx?, List.findIdx?.go] at hr
             obtain ⟨⟨m0, m1, m2, -, -, -⟩, -⟩ := HU.out _ hb
             go_wp2_with (first
               | (go_at_call 15; (with_reducible refine (HPC _).out.mono ?_); rintro e w' ⟨rfl, rfl⟩))
             try (simp only [hr]; go_wp2)
             exact hK _ _ rfl (by first | exact Below.refl _ _ | assumption))
        simp only [List.nil_append, List.cons_append]
      intro us w hp hdist hb
      simp [Go.Confl.allPosts, Go.Confl.Is] at hp
      simp only [Go.Confl.putsFrom, Act.put, List.setIfInBounds_toArray, List.set_cons_zero, List.set_cons_succ]
      change wpList _ _ _ _ _ _
      obtain ⟨e0, e1, e2, e3, e4, e5, e6⟩ := hp
      simp only [e0, e1, e2, e3, e4, e5, e6]
      clear e0 e1 e2 e3 e4 e5 e6 hdist HPC
      obtain ⟨-, hr4⟩ := HU.out _ hb
      obtain ⟨r0, r1, r2⟩ := RowL.at hr4 HX0i.out
      have f0 := RowL.frozen hr4 (i * 3)
      have f1 := RowL.frozen hr4 (i * 3 + 1)
      have f2 := RowL.frozen hr4 (i * 3 + 2)
      have hput := RowL.put hr4 i ⟨fb, fn, fs⟩ HX0i.out
      simp only at hput
      have hlt4 := (RowL.lt hr4).1
      have hbp := set3_belowL (HBr4.out.trans (hb.mono HBr4.out.size)) hlt4 (i * 3) (.bool fb) (.int .i64 fn) (.string fs)
      have hi3 : i < R0.length := by rw [HN4.out]; exact hile
      clear hb hr4 HU HBr4
      go_upto_region 9 with fail
      obtain ⟨w5, hw5⟩ : ∃ w5, ((w.setCell ⟨g4, i * 3, none⟩ (.bool fb)).setCell ⟨g4, i * 3 + 1, none⟩ (.int .i64 fn)).setCell ⟨g4, i * 3 + 2, none⟩ (.string fs) = w5 := ⟨_, rfl⟩
      rw [hw5] at hput hbp ⊢
      clear hw5 r0 r1 r2 f0 f1 f2
      have HBr := Lib.hid hbp
      have HO5 := Lib.hid (show OwnL 32 w5 w2.heap.size (.slice (some ⟨g4, 0, none⟩) n4 c4) (R0.set i ⟨fb, fn, fs⟩) from RowL.own_at hput (by rw [List.length_set]; exact HN4.out) rfl)
      have HRr : ∀ w, OwnL 32 w w2.heap.size (.slice (some ⟨g4, 0, none⟩) n4 c4) (R0.set i ⟨fb, fn, fs⟩) → RdL w w.heap.size (.slice (some ⟨g4, 0, none⟩) n4 c4) (R0.set i ⟨fb, fn, fs⟩) := fun w h => OwnL.read h
      obtain ⟨R, hR⟩ : ∃ R, R0.set i ⟨fb, fn, fs⟩ = R := ⟨_, rfl⟩
      rw [hR] at HRr HO5
      clear hput hbp hR hi3 HX0i HN4 hii
      have HOW5 := Lib.hid (HOW.out.below HBr.out)
      obtain ⟨g, cc, he, hrow, -⟩ := ownV_some HOW5.out (fun e => by rw [e] at hkp; simp at hkp)
      cases he
      have hkl : k < ps.length := hkp
      obtain ⟨q, hq⟩ : ∃ q, ps[k]? = some q := ⟨ps[k], List.getElem?_eq_getElem hkl⟩
      have k5 := RowV.cell hrow k q hq
      obtain ⟨qA, qn, qc⟩ := q
      replace k5 : w5.cell? ⟨g, k, none⟩ = some (.slice qA qn qc) := k5
      have f5 := RowV.frozen hrow k
      have hst := RowV.store hrow k (⟨(some ⟨g4, 0, none⟩), n4, c4⟩ : Sl)
      have hls3 : RdLL (w5.setCell ⟨g, k, none⟩ (.slice (some ⟨g4, 0, none⟩) n4 c4)) (w5.setCell ⟨g, k, none⟩ (.slice (some ⟨g4, 0, none⟩) n4 c4)).heap.size (.slice (some ⟨g, 0, none⟩) ps.length uc) (ls.set k R) := ⟨ps.set k ⟨(some ⟨g4, 0, none⟩), n4, c4⟩, by
        have h := (RowV.own_at hst (n := ps.length) (by rw [List.length_set]) rfl).read
        exact h, by
        refine ⟨by rw [List.length_set, List.length_set]; exact HD.out.1, fun i' p l h1 h2 => ?_⟩
        by_cases hi : k = i'
        · subst hi
          rw [List.getElem?_set_self hkl] at h1
          rw [List.getElem?_set_self (by rw [← HD.out.1]; exact hkl)] at h2
          cases h1; cases h2
          exact HRr _ (own_setApart HO5.out hrow (by decide) k _)
        · rw [List.getElem?_set_ne hi] at h1 h2
          have h := (HD.out.2 i' p l h1 h2).below HBr.out
          exact OwnL.read (show OwnL 32 _ _ _ _ from own_setApart h hrow (by decide) k _)⟩
      have hg2 : X1.heap.size ≤ g := (RowV.lt hrow).1
      have hbS : Below X1.heap.size X1 (w5.setCell ⟨g, k, none⟩ (.slice (some ⟨g4, 0, none⟩) n4 c4)) := ((hb2.trans (HBr.out.mono hb2.size)).setCell (p := ⟨g, k, none⟩) hg2 _)
      have hVs3 := hVs1.step hbS
      have hV3 := HVY.out.step hbS
      have hsr3 := HSR.out.step hbS
      have hraw3 := HRAW.out.step hbS
      have hy3 := HY1.out.step hbS
      have hB3 := bel_trans HBX1.out hbS
      have hkm : (k : Int) < (ps.length : Int) := by omega
      have hkm' : k < ps.length := hkl
      clear hst hrow hq hkl HOW5 HRr hbS HO5
      generalize ps.length = m at *
      go_upto_region 10 with fail
      obtain ⟨X, hX⟩ : ∃ X, w5.setCell ⟨g, k, none⟩ (.slice (some ⟨g4, 0, none⟩) n4 c4) = X := ⟨_, rfl⟩
      rw [hX] at hls3 hVs3 hV3 hsr3 hraw3 hy3 hB3 ⊢
      clear hX k5 f5
      obtain ⟨LS, hLS⟩ : ∃ LS, ls.set k R = LS := ⟨_, rfl⟩
      rw [hLS] at hls3
      clear hLS
      have HVX := fun w (h : Below X.heap.size X w) => Lib.hid (And.intro (hVs3.step h) (hV3.step h))
      have HA := fun w => Lib.hid (awake15_any w)
      have C1 := fun w (h : Below X.heap.size X w) => Lib.hid (cbat_any scs sv sk v1 zraw w (hsr3.step h) (hraw3.step h))
      have C2 := fun w (h : Below X.heap.size X w) => Lib.hid (rcbat_any scs sv sk v1 zraw w (hsr3.step h) (hraw3.step h))
      have C3 := fun w (h : Below X.heap.size X w) => Lib.hid (cbat_any ycs yv yk _ _ w (hy3.step h) (hls3.step h))
      have C4 := fun w (h : Below X.heap.size X w) => Lib.hid (rcbat_any ycs yv yk _ _ w (hy3.step h) (hls3.step h))
      have C5 := fun w (h : Below X.heap.size X w) => Lib.hid (cbat_any ycs yv yk v1 zraw w (hy3.step h) (hraw3.step h))
      have C6 := fun w (h : Below X.heap.size X w) => Lib.hid (rcbat_any ycs yv yk v1 zraw w (hy3.step h) (hraw3.step h))
      generalize chkB scs sk zraw = E1 at *
      generalize chkB ycs yk LS = E2 at *
      generalize chkB ycs yk zraw = E3 at *
      have HB3 := Lib.hid hB3
      clear hVs3 hV3 hsr3 hraw3 hy3 hls3 hB3
      go_wp2_with fail
      refine Go.Confl.wp_region_confl (by simp only [List.map_cons, List.map_nil]; rfl) (by kernel_rfl) (by kernel_rfl) ?_
      iterate 29
        first
        | (refine Go.Confl.chain_skip (Go.Confl.unwanted_is rfl rfl) ?_)
        | (first | apply Go.Confl.chain_is _ (Go.Confl.wanted_none rfl) | apply Go.Confl.chain_is _ (Go.Confl.wanted_is rfl rfl)
           · intro b w hr hb K hK
             simp [Go.Confl.readFacts, Go.Confl.tmpsOf, Go.Confl.writerOf, Go.Confl.Is, Op.operands, Call.operands, List.findIdx?, List.findIdx?.go] at hr
             obtain ⟨⟨s0, s1, -, -⟩, ⟨y0, y1, -, -⟩⟩ := (HVX _ hb).out
             go_wp2_with (first
               | (go_at_call 16; (with_reducible refine (HA _).out.mono ?_); rintro e w' ⟨rfl, hb'⟩)
               | (go_at_call 17; (with_reducible refine (C1 _ hb).out.mono ?_); rintro e w' ⟨rfl, hb'⟩)
               | (go_at_call 18; (with_reducible refine (C2 _ hb).out.mono ?_); rintro e w' ⟨rfl, hb'⟩)
               | (go_at_call 17; (with_reducible refine (C3 _ hb).out.mono ?_); rintro e w' ⟨rfl, hb'⟩)
               | (go_at_call 18; (with_reducible refine (C4 _ hb).out.mono ?_); rintro e w' ⟨rfl, hb'⟩)
               | (go_at_call 17; (with_reducible refine (C5 _ hb).out.mono ?_); rintro e w' ⟨rfl, hb'⟩)
               | (go_at_call 18; (with_reducible refine (C6 _ hb).out.mono ?_); rintro e w' ⟨rfl, hb'⟩))
             try (simp only [hr]; go_wp2)
             exact hK _ _ rfl (by first | exact Below.refl _ _ | assumption))
        simp only [List.nil_append, List.cons_append]
      intro us w hp hb
      simp [Go.Confl.allPosts, Go.Confl.Is] at hp
      simp only [Go.Confl.putsFrom, hp, Act.put, List.setIfInBounds_toArray, List.set_cons_zero, List.set_cons_succ]
      go_wp2
      go_ret
      exact RetB.mk rfl (bel_trans HB3.out hb)
theorem batchChecks_holds : Rows.BatchChecksSaid :=
  OpenClaim.holds_of_wide 4 Try.f4 rfl rfl rfl rfl rfl rfl rfl ⟨rfl, rfl, rfl, rfl, rfl⟩ rfl rfl rfl rfl rfl (by kernel_rfl) Try.func4 (by kernel_rfl)
    (of_decide_eq_true (by kernel_rfl)) (by unfold Func.isWrapper; first | (rw [if_pos (by decide +kernel)]; kernel_rfl) | (rw [if_neg (by decide +kernel)]; exact ⟨rfl, rfl⟩))
    (fun os started H enc _ => batchChecks_lifted os started H enc)
end Go.Proofs.Ytjbkeipagdmlpaa
