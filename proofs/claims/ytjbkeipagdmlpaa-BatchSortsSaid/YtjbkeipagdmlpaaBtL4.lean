/- BatchSorts. -/
import Derived.Test.YtjbkeipagdmlpaaBtP
import Derived.Test.YtjbkeipagdmlpaaBtO
import Derived.Test.YtjbkeipagdmlpaaBt5b
import Derived.Test.YtjbkeipagdmlpaaBt7b
namespace Go.Proofs.Ytjbkeipagdmlpaa
open Go.RowKit Go.VB Go.VS Go.SC Go.CK Go.ST Go.MK Go.RS Go.ChangeShapes Go.WideShapes Go.ChangeAt
set_option linter.constructorNameAsVariable false
set_option maxRecDepth 100000 in
set_option maxHeartbeats 4000000 in
theorem batchSorts_lifted (os : Os) (started : os.Started) (H : Type) (enc : TypeId × Value → H) :
    ReturnsInHanded {} Try.checked os 6 .any (Rows.batchSortsSpec.pre6 enc Try.prog Try.f6 Rows.batchSortsRow.domain false) (Rows.batchSortsSpec.post enc Try.prog Try.f6 false true false false) := by
  refine law_lifted (C := Try.checked) (tb := 4) started Try.own Try.laidOut (by kernel_rfl) Try.func6
    (ChangeSpec.witness6 (enc := enc) (C := Try.checked) false ⟨#[], #[.agg #[.slice none 0 0, .int .i64 0], .slice none 0 0, .slice none 0 0, .slice none 0 0], []⟩ 8 (by kernel_rfl) (by kernel_rfl) (by kernel_rfl) (by kernel_rfl))
    rfl rfl Try.underlying4 (by kernel_rfl) (fun ds h => ?_) (fun W base args ds p hval0 hA0 hsz0 hlt => ?_)
  · have h' : ds.length = Try.f6.params.toList.length := h
    rw [Try.params6] at h'
    match ds, h' with
    | [_, _, _, _], _ => rfl
  · have hval : ∀ (j : Nat) t v, Try.f6.params[j]? = some t → args[j]? = some v → Value.okWide Try.prog W .any base t v := hval0
    have hA : DataW.TrodAll enc Try.prog W 0 (fun _ => true) true Try.f6.params.toList args.toList ds p := hA0
    have hsz : (DataW.weightsEach Try.prog Try.f6.params.toList ds).all (· ≤ reachBytes) = true := hsz0
    rw [Try.params6] at hA hval hsz
    clear hA0 hval0 hsz0
    obtain ⟨v0, vs0, d0, ds0, p0, q0, hargs, rfl, rfl, h0, r0⟩ := trodAll_cons hA
    obtain ⟨v1, vs1, d1, ds1, p1, q1, rfl, rfl, rfl, h1, r1⟩ := trodAll_cons r0
    obtain ⟨v2, vs2, d2, ds2, p2, q2, rfl, rfl, rfl, h2, r2⟩ := trodAll_cons r1
    obtain ⟨v3, vs3, d3, ds3, p3, q3, rfl, rfl, rfl, h3, r3⟩ := trodAll_cons r2
    obtain ⟨rfl, rfl, rfl⟩ := trodAll_nil r3
    obtain rfl : args = #[v0, v1, v2, v3] := by cases args; simp_all
    obtain ⟨sv, scs, sk, rfl, sr, wsk⟩ := open_sch (hval 0 28 v0 rfl rfl) h0
    obtain ⟨zraw, rraw, braw, mraw⟩ := open_recs (hval 1 24 v1 rfl rfl) h1 hsz (j := 1) rfl rfl
    obtain ⟨zx, rx, wx, bx⟩ := open_rdI Try.underlying30 Try.underlying3 (by kernel_rfl) (hval 2 30 v2 rfl rfl) h2 hsz (j := 2) rfl rfl
    obtain ⟨zl, rl, wl, bl⟩ := open_rdI Try.underlying30 Try.underlying3 (by kernel_rfl) (hval 3 30 v3 rfl rfl) h3 hsz (j := 3) rfl rfl
    change Calls Try.prog 6 #[(.agg #[sv, .int .i64 sk]), v1, v2, v3] W (RetB (.bool true) W)
    have hVs0 := Var2.new W sv (.int .i64 sk) 28
    have hBs0 : Below W.heap.size W (W.alloc (.cells #[sv, .int .i64 sk] 28)) := (Below.refl _ _).alloc (Nat.le_refl _) _
    obtain ⟨X0, hX0⟩ : ∃ X, W.alloc (.cells #[sv, .int .i64 sk] 28) = X := ⟨_, rfl⟩
    rw [hX0] at hVs0 hBs0
    have HX0 := Lib.hid hX0
    clear hX0
    have hK := Lib.hid (kSch_any X0 v2 zx (rx.step hBs0) wx)
    go_enter Try.func6, Try.ntmps6
    go_wp2_with fail
    rw [HX0.out]
    (with_reducible refine hK.out.mono ?_); rintro e w1 ⟨hb1, yv, ycs, yk, rfl, hoy, hko⟩
    have hyr := OwnC.read hoy
    obtain ⟨yA, yc, rfl, -, -, -⟩ := id hyr
    have hVy := Var2.new w1 (.slice yA ycs.length yc) (.int .i64 yk) 28
    have hba := (Below.refl w1.heap.size w1).alloc (Nat.le_refl _) (.cells #[(.slice yA ycs.length yc), .int .i64 yk] 28)
    obtain ⟨X1, hX1⟩ : ∃ X, w1.alloc (.cells #[(.slice yA ycs.length yc), .int .i64 yk] 28) = X := ⟨_, rfl⟩
    rw [hX1] at hVy hba
    have HX1 := Lib.hid hX1
    have hB1 := bel_trans (bel_trans hBs0 hb1) hba
    have hyr1 := hyr.step hba
    have hL0 := (kloose_any X1 ycs (.slice yA ycs.length yc) yk v3 zl 12 (by decide) hyr1 (kok_12 hko) (kok_ty hko) (rl.step hB1) wl)
    rw [show ((12 : Nat) : Int) = 12 from rfl] at hL0
    have hL := Lib.hid hL0
    have hBX1 := bel_trans hb1 hba
    clear hX1 hK hb1 hoy hba hyr hL0
    go_wp2_with fail
    rw [HX1.out]
    generalize Value.slice yA ycs.length yc = yv at *
    (with_reducible refine hL.out.mono ?_); rintro e w2 ⟨u, lz, rfl, hz, hzl, hok, hb2⟩
    have hB2 := bel_trans hB1 hb2
    have hy2 := hyr1.step hb2
    have hV2 := hVy.step hb2
    have hVs2 := hVs0.step (bel_trans hBX1 hb2)
    clear hL hyr1 hVy
    have hrd := hz.read
    have hsr := sr.step hB2
    have hraw := rraw.step hB2
    have HV := fun w (h : Below w2.heap.size w2 w) => Lib.hid (And.intro (hVs2.step h) (hV2.step h))
    have HA := fun w => Lib.hid (awake15_any w)
    have H1 := fun w (h : Below w2.heap.size w2 w) => Lib.hid (bsorted_any scs sv sk v1 zraw w (hsr.step h) (hraw.step h))
    have H2 := fun w (h : Below w2.heap.size w2 w) => Lib.hid (rsorted_any scs sv sk v1 zraw w (hsr.step h) (hraw.step h))
    have H3 := fun w (h : Below w2.heap.size w2 w) => Lib.hid (bsorted_any ycs yv yk u lz w (hy2.step h) (hrd.step h))
    have H4 := fun w (h : Below w2.heap.size w2 w) => Lib.hid (rsorted_any ycs yv yk u lz w (hy2.step h) (hrd.step h))
    have S1 := fun w (h : Below w2.heap.size w2 w) => Lib.hid (bsort_any scs sv sk v1 zraw w (hsr.step h) (hraw.step h) braw)
    have T1 := fun w (h : Below w2.heap.size w2 w) => Lib.hid (rsort_any scs sv sk v1 zraw w (hsr.step h) (hraw.step h) braw)
    have S2 := fun w (h : Below w2.heap.size w2 w) => Lib.hid (bsort_any ycs yv yk u lz w (hy2.step h) (hrd.step h) (by omega))
    have T2 := fun w (h : Below w2.heap.size w2 w) => Lib.hid (rsort_any ycs yv yk u lz w (hy2.step h) (hrd.step h) (by omega))
    generalize srtdB scs sk zraw = E1 at *
    generalize srtdB ycs yk lz = E2 at *
    generalize sortR scs sk zraw = L1 at *
    generalize sortR ycs yk lz = L2 at *
    have HB2 := Lib.hid hB2
    clear hz hrd hsr hraw hok hzl hko hy2 hV2 hB2 hb2 hB1 hVs2 hVs0 hBs0 hBX1 mraw
    go_wp2_with fail
    refine Go.Confl.wp_region_confl (by simp only [List.map_cons, List.map_nil]; rfl) (by kernel_rfl) (by kernel_rfl) ?_
    iterate 13
      first
      | (refine Go.Confl.chain_skip (Go.Confl.unwanted_is rfl rfl) ?_)
      | (first | apply Go.Confl.chain_is _ (Go.Confl.wanted_none rfl) | apply Go.Confl.chain_is _ (Go.Confl.wanted_is rfl rfl)
         · intro b w hr hb K hK
           simp [Go.Confl.readFacts, Go.Confl.tmpsOf, Go.Confl.writerOf, Go.Confl.Is, Op.operands, Call.operands, List.findIdx?, List.findIdx?.go] at hr
           obtain ⟨⟨s0, s1, -, -⟩, ⟨y0, y1, -, -⟩⟩ := (HV _ hb).out
           go_wp2_with (first
             | (go_at_call 16; (with_reducible refine (HA _).out.mono ?_); rintro e w' ⟨rfl, hb'⟩)
             | (go_at_call 25; (with_reducible refine (H1 _ hb).out.mono ?_); rintro e w' ⟨rfl, hb'⟩)
             | (go_at_call 26; (with_reducible refine (H2 _ hb).out.mono ?_); rintro e w' ⟨rfl, hb'⟩))
           try (simp only [hr]; go_wp2)
           exact hK _ _ rfl (by first | exact Below.refl _ _ | assumption))
      simp only [List.nil_append, List.cons_append]
    apply Go.Confl.chain_any (RdRQ L1) (RdRQ.stable L1) (Go.Confl.wanted_is rfl rfl)
    · intro f w hr hb K hK
      simp [Go.Confl.readFacts, Go.Confl.tmpsOf, Go.Confl.writerOf, Go.Confl.Is, Op.operands, Call.operands, List.findIdx?, List.findIdx?.go] at hr
      go_wp2_with fail
      (with_reducible refine (S1 _ hb).out.mono ?_); rintro e w' ⟨v, ps, rfl, ho, hd, hb'⟩
      exact hK _ _ (Go.RS.OwnK.rdR ho hd) hb'
    simp only [List.nil_append, List.cons_append]
    iterate 2
      first
      | (refine Go.Confl.chain_skip (Go.Confl.unwanted_is rfl rfl) ?_)
      | (first | apply Go.Confl.chain_is _ (Go.Confl.wanted_none rfl) | apply Go.Confl.chain_is _ (Go.Confl.wanted_is rfl rfl)
         · intro b w hr hb K hK
           simp [Go.Confl.readFacts, Go.Confl.tmpsOf, Go.Confl.writerOf, Op.operands, List.findIdx?, List.findIdx?.go] at hr
           obtain ⟨⟨s0, s1, -, -⟩, ⟨y0, y1, -, -⟩⟩ := (HV _ hb).out
           go_wp2_with fail
           try (simp only [hr]; go_wp2)
           exact hK _ _ rfl (by first | exact Below.refl _ _ | assumption))
      simp only [List.nil_append, List.cons_append]
    apply Go.Confl.chain_any (RdRQ L1) (RdRQ.stable L1) (Go.Confl.wanted_is rfl rfl)
    · intro f w hr hb K hK
      simp [Go.Confl.readFacts, Go.Confl.tmpsOf, Go.Confl.writerOf, Go.Confl.Is, Op.operands, Call.operands, List.findIdx?, List.findIdx?.go] at hr
      go_wp2_with fail
      (with_reducible refine (T1 _ hb).out.mono ?_); rintro e w' ⟨v, ps, rfl, ho, hd, hb'⟩
      exact hK _ _ (Go.RS.OwnK.rdR ho hd) hb'
    simp only [List.nil_append, List.cons_append]
    apply Go.Confl.chain_is _ (Go.Confl.wanted_is rfl rfl)
    · intro f w hr hb K hK
      simp [Go.Confl.readFacts, Go.Confl.tmpsOf, Go.Confl.writerOf, Op.operands, Call.operands, List.findIdx?, List.findIdx?.go] at hr
      obtain ⟨hr1, hr2⟩ := hr
      have hr1 : RdR w w.heap.size _ L1 := hr1
      have hr2 : RdR w w.heap.size _ L1 := hr2
      go_wp2_with fail
      (with_reducible refine (same_recs _ _ L1 L1 w hr1 hr2).mono ?_); rintro e w' ⟨b, rfl, hbb, hb'⟩
      obtain rfl : b = true := hbb.2 rfl
      exact hK _ _ rfl hb'
    simp only [List.nil_append, List.cons_append]
    iterate 13
      first
      | (refine Go.Confl.chain_skip (Go.Confl.unwanted_is rfl rfl) ?_)
      | (first | apply Go.Confl.chain_is _ (Go.Confl.wanted_none rfl) | apply Go.Confl.chain_is _ (Go.Confl.wanted_is rfl rfl)
         · intro b w hr hb K hK
           simp [Go.Confl.readFacts, Go.Confl.tmpsOf, Go.Confl.writerOf, Go.Confl.Is, Op.operands, Call.operands, List.findIdx?, List.findIdx?.go] at hr
           obtain ⟨⟨s0, s1, -, -⟩, ⟨y0, y1, -, -⟩⟩ := (HV _ hb).out
           go_wp2_with (first
             | (go_at_call 25; (with_reducible refine (H3 _ hb).out.mono ?_); rintro e w' ⟨rfl, hb'⟩)
             | (go_at_call 26; (with_reducible refine (H4 _ hb).out.mono ?_); rintro e w' ⟨rfl, hb'⟩))
           try (simp only [hr]; go_wp2)
           exact hK _ _ rfl (by first | exact Below.refl _ _ | assumption))
      simp only [List.nil_append, List.cons_append]
    apply Go.Confl.chain_any (RdRQ L2) (RdRQ.stable L2) (Go.Confl.wanted_is rfl rfl)
    · intro f w hr hb K hK
      simp [Go.Confl.readFacts, Go.Confl.tmpsOf, Go.Confl.writerOf, Go.Confl.Is, Op.operands, Call.operands, List.findIdx?, List.findIdx?.go] at hr
      go_wp2_with fail
      (with_reducible refine (S2 _ hb).out.mono ?_); rintro e w' ⟨v, ps, rfl, ho, hd, hb'⟩
      exact hK _ _ (Go.RS.OwnK.rdR ho hd) hb'
    simp only [List.nil_append, List.cons_append]
    iterate 2
      first
      | (refine Go.Confl.chain_skip (Go.Confl.unwanted_is rfl rfl) ?_)
      | (first | apply Go.Confl.chain_is _ (Go.Confl.wanted_none rfl) | apply Go.Confl.chain_is _ (Go.Confl.wanted_is rfl rfl)
         · intro b w hr hb K hK
           simp [Go.Confl.readFacts, Go.Confl.tmpsOf, Go.Confl.writerOf, Op.operands, List.findIdx?, List.findIdx?.go] at hr
           obtain ⟨⟨s0, s1, -, -⟩, ⟨y0, y1, -, -⟩⟩ := (HV _ hb).out
           go_wp2_with fail
           try (simp only [hr]; go_wp2)
           exact hK _ _ rfl (by first | exact Below.refl _ _ | assumption))
      simp only [List.nil_append, List.cons_append]
    apply Go.Confl.chain_any (RdRQ L2) (RdRQ.stable L2) (Go.Confl.wanted_is rfl rfl)
    · intro f w hr hb K hK
      simp [Go.Confl.readFacts, Go.Confl.tmpsOf, Go.Confl.writerOf, Go.Confl.Is, Op.operands, Call.operands, List.findIdx?, List.findIdx?.go] at hr
      go_wp2_with fail
      (with_reducible refine (T2 _ hb).out.mono ?_); rintro e w' ⟨v, ps, rfl, ho, hd, hb'⟩
      exact hK _ _ (Go.RS.OwnK.rdR ho hd) hb'
    simp only [List.nil_append, List.cons_append]
    apply Go.Confl.chain_is _ (Go.Confl.wanted_is rfl rfl)
    · intro f w hr hb K hK
      simp [Go.Confl.readFacts, Go.Confl.tmpsOf, Go.Confl.writerOf, Op.operands, Call.operands, List.findIdx?, List.findIdx?.go] at hr
      obtain ⟨hr1, hr2⟩ := hr
      have hr1 : RdR w w.heap.size _ L2 := hr1
      have hr2 : RdR w w.heap.size _ L2 := hr2
      go_wp2_with fail
      (with_reducible refine (same_recs _ _ L2 L2 w hr1 hr2).mono ?_); rintro e w' ⟨b, rfl, hbb, hb'⟩
      obtain rfl : b = true := hbb.2 rfl
      exact hK _ _ rfl hb'
    simp only [List.nil_append, List.cons_append]
    iterate 2
      first
      | (refine Go.Confl.chain_skip (Go.Confl.unwanted_is rfl rfl) ?_)
      | (first | apply Go.Confl.chain_is _ (Go.Confl.wanted_none rfl) | apply Go.Confl.chain_is _ (Go.Confl.wanted_is rfl rfl)
         · intro b w hr hb K hK
           simp [Go.Confl.readFacts, Go.Confl.tmpsOf, Go.Confl.writerOf, Go.Confl.Is, Op.operands, List.findIdx?, List.findIdx?.go] at hr
           go_wp2_with fail
           try (simp only [hr]; go_wp2)
           exact hK _ _ rfl (by first | exact Below.refl _ _ | assumption))
      simp only [List.nil_append, List.cons_append]
    intro us w hp hb
    simp [Go.Confl.allPosts, Go.Confl.Is] at hp
    simp only [Go.Confl.putsFrom, hp, Act.put, List.setIfInBounds_toArray, List.set_cons_zero, List.set_cons_succ]
    go_wp2
    go_ret
    exact RetB.mk rfl (bel_trans HB2.out hb)
theorem batchSorts_holds : Rows.BatchSortsSaid :=
  OpenClaim.holds_of_wide 6 Try.f6 rfl rfl rfl rfl rfl rfl rfl ⟨rfl, rfl, rfl, rfl, rfl⟩ rfl rfl rfl rfl rfl (by kernel_rfl) Try.func6 (by kernel_rfl)
    (of_decide_eq_true (by kernel_rfl)) (by unfold Func.isWrapper; first | (rw [if_pos (by decide +kernel)]; kernel_rfl) | (rw [if_neg (by decide +kernel)]; exact ⟨rfl, rfl⟩))
    (fun os started H enc _ => batchSorts_lifted os started H enc)
end Go.Proofs.Ytjbkeipagdmlpaa
