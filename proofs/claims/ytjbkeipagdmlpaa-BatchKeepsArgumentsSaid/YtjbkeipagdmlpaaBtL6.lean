/- BatchKeepsArguments. -/
import Derived.Test.YtjbkeipagdmlpaaBtP
import Derived.Test.YtjbkeipagdmlpaaBt6b
import Derived.Test.YtjbkeipagdmlpaaBtO
namespace Go.Proofs.Ytjbkeipagdmlpaa
open Go.RowKit Go.VB Go.VS Go.SC Go.CK Go.ST Go.MK Go.RS Go.ChangeShapes Go.WideShapes Go.ChangeAt
set_option linter.constructorNameAsVariable false
set_option maxRecDepth 100000 in
set_option maxHeartbeats 4000000 in
theorem batchKeepsArguments_lifted (os : Os) (started : os.Started) (H : Type) (enc : TypeId × Value → H) :
    ReturnsInHanded {} Try.checked os 11 .any (Rows.batchKeepsArgumentsSpec.pre6 enc Try.prog Try.f11 Rows.batchKeepsArgumentsRow.domain false) (Rows.batchKeepsArgumentsSpec.post enc Try.prog Try.f11 false true false false) := by
  refine law_lifted (C := Try.checked) (tb := 4) started Try.own Try.laidOut (by kernel_rfl) Try.func11
    (ChangeSpec.witness6 (enc := enc) (C := Try.checked) false ⟨#[], #[.slice none 0 0, .slice none 0 0, .int .i64 0], []⟩ 8 (by kernel_rfl) (by kernel_rfl) (by kernel_rfl) (by kernel_rfl))
    rfl rfl Try.underlying4 (by kernel_rfl) (fun ds h => ?_) (fun W base args ds p hval0 hA0 hsz0 hlt => ?_)
  · have h' : ds.length = Try.f11.params.toList.length := h
    rw [Try.params11] at h'
    match ds, h' with
    | [_, _, _], _ => rfl
  · have hval : ∀ (j : Nat) t v, Try.f11.params[j]? = some t → args[j]? = some v → Value.okWide Try.prog W .any base t v := hval0
    have hA : DataW.TrodAll enc Try.prog W 0 (fun _ => true) true Try.f11.params.toList args.toList ds p := hA0
    have hsz : (DataW.weightsEach Try.prog Try.f11.params.toList ds).all (· ≤ reachBytes) = true := hsz0
    rw [Try.params11] at hA hval hsz
    clear hA0 hval0 hsz0
    obtain ⟨v0, vs0, d0, ds0, p0, q0, hargs, rfl, rfl, h0, r0⟩ := trodAll_cons hA
    obtain ⟨v1, vs1, d1, ds1, p1, q1, rfl, rfl, rfl, h1, r1⟩ := trodAll_cons r0
    obtain ⟨v2, vs2, d2, ds2, p2, q2, rfl, rfl, rfl, h2, r2⟩ := trodAll_cons r1
    obtain ⟨rfl, rfl, rfl⟩ := trodAll_nil r2
    obtain rfl : args = #[v0, v1, v2] := by cases args; simp_all
    obtain ⟨zx, rx, wx, bx⟩ := open_rdI Try.underlying30 Try.underlying3 (by kernel_rfl) (hval 0 30 v0 rfl rfl) h0 hsz (j := 0) rfl rfl
    obtain ⟨zl, rl, wl, bl⟩ := open_rdI Try.underlying30 Try.underlying3 (by kernel_rfl) (hval 1 30 v1 rfl rfl) h1 hsz (j := 1) rfl rfl
    obtain ⟨n, rfl, rfl, rfl, wn⟩ := open_int Try.underlying3 (hval 2 3 v2 rfl rfl) h2
    change Calls Try.prog 11 #[v0, v1, .int .i64 n] W (RetB (.bool true) W)
    have hP := fun w => Lib.hid (pick_at n 3 w wn (by omega) (by omega))
    have hp := pickN_bd n (n := 3) (by omega)
    generalize pickN n 3 = p at *
    obtain ⟨p1, p2⟩ := hp
    obtain ⟨K, hKp⟩ : ∃ K : Nat, K = (1 + p).toNat := ⟨_, rfl⟩
    have hadd2 : 1 + p = (K : Int) := by omega
    have hadd : wrap64 (1 + p) = (K : Int) := by unfold wrap64; omega
    have hK1 : 1 ≤ K := by omega
    have hwk : wrap64 (K : Int) = (K : Int) := by unfold wrap64; omega
    have HWK := Lib.hid hwk
    have HADD := Lib.hid hadd; have HADD2 := Lib.hid hadd2
    clear hKp p1 p2 hadd hadd2 hwk
    have hK := Lib.hid (kSch_any W v0 zx rx wx)
    go_enter Try.func11, Try.ntmps11
    go_wp2_with fail
    (with_reducible refine hK.out.mono ?_); rintro e w1 ⟨hb1, yv, ycs, yk, rfl, hoy, hko⟩
    have hyr := OwnC.read hoy
    obtain ⟨yA, yc, rfl, -, -, -⟩ := id hyr
    have hVy := Var2.new w1 (.slice yA ycs.length yc) (.int .i64 yk) 28
    have hba := (Below.refl w1.heap.size w1).alloc (Nat.le_refl _) (.cells #[(.slice yA ycs.length yc), .int .i64 yk] 28)
    obtain ⟨X1, hX1⟩ : ∃ X, w1.alloc (.cells #[(.slice yA ycs.length yc), .int .i64 yk] 28) = X := ⟨_, rfl⟩
    rw [hX1] at hVy hba
    have HX1 := Lib.hid hX1
    have hB1 := bel_trans hb1 hba
    have hyr1 := hyr.step hba
    have hL0 := (kloose_any X1 ycs (.slice yA ycs.length yc) yk v1 zl 8 (by decide) hyr1 (kok_12 hko) (kok_ty hko) (rl.step hB1) wl)
    rw [show ((8 : Nat) : Int) = 8 from rfl] at hL0
    have hL := Lib.hid hL0
    clear hX1 hK hb1 hoy hba hyr hL0
    go_wp2_with fail
    rw [HX1.out]
    generalize Value.slice yA ycs.length yc = yv at *
    (with_reducible refine hL.out.mono ?_); rintro e w2 ⟨u, lz, rfl, hz, hzl, hok, hb2⟩
    have hB2 := bel_trans hB1 hb2
    have hy2 := hyr1.step hb2
    have hV2 := hVy.step hb2
    clear hL hyr1 hVy
    have hrz := hz.read
    obtain ⟨qz, hq1, hq2⟩ := hrz
    obtain ⟨zA, zn, zc, rfl⟩ := ownRs_sl hz
    have hzn : zn = lz.length := hz.read.len.1
    have hqn : qz.length = zn := by rw [hq2.1, hzn]
    have HQ1 := Lib.hid hq1; have HQ2 := Lib.hid hq2; have HRZ := Lib.hid hz.read
    have hn8 : zn ≤ 8 := by omega
    have hsz8 : lz.length * 32 ≤ 140737488351232 := by omega
    have hrow8 : ∀ r ∈ lz, r.row.length * 32 ≤ 140737488351232 := fun r hr => by have h1 := (okRec_sound (hok r hr)).2.2; have h2 := kok_12 hko; rw [h1]; omega
    have HSZ := Lib.hid hsz8; have HRO := Lib.hid hrow8; have HQN := Lib.hid hqn; have HZN := Lib.hid hzn
    have HT1 := Lib.hid (show ([] : List Rs).length + qz.length ≤ maxLen by unfold maxLen; simp only [List.length_nil]; omega)
    have HT2 := Lib.hid (show (([] : List Rs).length + qz.length) * 32 ≤ 140737488355328 by simp only [List.length_nil]; omega)
    have HT3 := Lib.hid (show ([] ++ qz : List Rs).length + [(⟨77, sl0⟩ : Rs)].length ≤ maxLen by unfold maxLen; simp only [List.length_append, List.length_cons, List.length_nil]; omega)
    have HT4 := Lib.hid (show (([] ++ qz : List Rs).length + [(⟨77, sl0⟩ : Rs)].length) * 32 ≤ 140737488355328 by simp only [List.length_append, List.length_cons, List.length_nil]; omega)
    have HY2 := Lib.hid hy2; have HV2 := Lib.hid hV2; have HB2 := Lib.hid hB2
    clear hq1 hq2 hz hy2 hV2 hB2 hb2 hB1 hsz8 hrow8 hqn hzn hzl hok hko
    go_wp2_with (first
      | (at_builtin; refine wpl_appK (L := recL) rfl _ _ 24 rfl w2.heap.size 41 32 Try.underlying24 Try.infRec (.slice none 0 0) [] rfl (OwnK.nil _ _ _ _) w2.heap.size _ qz rfl HQ1.out HT1.out HT2.out (Nat.le_refl _) ?_
         intro v3 w3 ho3 hb3 _
         obtain ⟨aA, an, ac, rfl⟩ := ownK_sl ho3
         have HO3 := Lib.hid (ho3.alloc (.cells #[.int .i64 77, .slice none 0 0] 41))
         have HX3 := Lib.hid (RdK.lit (L := recL) w3 [(⟨77, sl0⟩ : Rs)] 1 41 (Nat.le_refl 1) (by decide))
         have HB3 := Lib.hid (hb3.alloc hb3.size (.cells #[.int .i64 77, .slice none 0 0] 41))
         clear ho3 hb3)
      | (at_builtin; refine wpl_appK (L := recL) rfl _ _ 24 rfl w2.heap.size 41 32 Try.underlying24 Try.infRec (.slice aA an ac) ([] ++ qz) rfl HO3.out _ _ [(⟨77, sl0⟩ : Rs)] rfl HX3.out HT3.out HT4.out HB3.out.size ?_
         intro v4 w4 ho4 hb4 _
         obtain ⟨g, c, rfl, hrow, hcc, hcm⟩ := own_some ho4 (by simp)
         have HROW := Lib.hid hrow; have HB4 := Lib.hid (HB3.out.trans hb4)
         have hl4 : (([] ++ qz) ++ [(⟨77, sl0⟩ : Rs)]).length = zn + 1 := by simp only [List.length_append, List.length_cons, List.length_nil]; have := HQN.out; omega
         rw [hl4] at hcc
         rw [hl4]
         have hznc : zn ≤ c := by omega
         have hznc1 : zn ≤ zn + 1 := by omega
         clear ho4 hb4 hrow))
    have hl4 : (([] ++ qz) ++ [(⟨77, sl0⟩ : Rs)]).length = zn + 1 := by simp only [List.length_append, List.length_cons, List.length_nil]; have := HQN.out; omega
    have hrs : RdR w4 w4.heap.size (.slice (some ⟨g, 0, none⟩) zn c) lz := ⟨qz, by
      have h := (OwnK.read (RowK.own HROW.out)).head (m := qz) (by simp) (by simp)
      rw [HQN.out] at h
      exact h, (HQ2.out.below HB4.out).more HB4.out.size⟩
    have HRS := Lib.hid hrs
    have HK77 := Lib.hid (show w4.cell? ⟨g, zn * 2, none⟩ = some (.int .i64 77) from by
      have h := RowK.at HROW.out (i := zn) (x := (⟨77, sl0⟩ : Rs)) (by rw [List.nil_append, List.getElem?_append_right (by rw [HQN.out]; exact Nat.le_refl _), HQN.out, Nat.sub_self]; rfl) 0 (u := .int .i64 77) rfl
      exact h)
    have hg4 : g < w4.heap.size := (RowK.lt HROW.out).2
    have HG4 := Lib.hid hg4
    have hB4 := bel_trans HB2.out HB4.out
    have HBW := Lib.hid hB4
    have hS := bsplit_any (.slice (some ⟨g, 0, none⟩) zn c) lz (K : Int) w4 hrs HSZ.out HRO.out
    rw [prtL_in hK1] at hS
    have HS := Lib.hid hS
    clear hS hrs hl4 hg4 hB4 HO3 HX3 HB3 HT1 HT2 HT3 HT4 HQ1
    (with_reducible refine (hP _).out.mono ?_); rintro e w4' ⟨rfl, rfl⟩
    have hadd := HADD.out
    have hadd2 := HADD2.out
    have hwk := HWK.out
    go_wp2_with fail
    (with_reducible refine HS.out.mono ?_); rintro e w5 ⟨pv, ps, rfl, ho5, hd5, hb5⟩
    clear hadd hadd2 hwk
    have h45 : w4.heap.size ≤ w5.heap.size := hb5.size
    have hV5 := (HV2.out.step HB4.out).step hb5
    have hy5 := ((HY2.out.step HB4.out).step hb5)
    have HSO := Lib.hid (bsort_any ycs yv yk (.slice (some ⟨g, 0, none⟩) zn c) lz w5 hy5 (HRS.out.step hb5) HSZ.out)
    obtain ⟨y0, y1, -, -⟩ := hV5
    have HO5 := Lib.hid ho5; have HB5 := Lib.hid hb5
    have HD5 := Lib.hid (show ∀ (i : Nat) (q : Sl), ps[i]? = some q → ∃ qs, OwnK recL 41 w5 w4.heap.size q.val qs ∧ 1 ≤ qs.length from fun i q hq => by
      have hi : i < (prt K lz).length := by rw [← hd5.1]; exact (List.getElem?_eq_some_iff.1 hq).1
      have hP := List.getElem?_eq_getElem hi
      obtain ⟨qs, h1, h2⟩ := hd5.2 i q _ hq hP
      refine ⟨qs, h1, ?_⟩
      rw [h2.1]
      exact (prt_parts (by omega) _ lz (Nat.le_refl _) i _ hP).1)
    clear ho5 hd5 hb5 hy5 HS hP
    go_wp2_with fail
    (with_reducible refine HSO.out.mono ?_); rintro e w6 ⟨qv, qq, rfl, ho6, hd6, hb6⟩
    have h56 : w5.heap.size ≤ w6.heap.size := hb6.size
    have HC := Lib.hid (bcols_any (.slice (some ⟨g, 0, none⟩) zn c) lz 2 w6 ((HRS.out.step HB5.out).step hb6) HSZ.out)
    have HO6 := Lib.hid ho6; have HB6 := Lib.hid hb6
    clear ho6 hd6 hb6 HSO y0 y1
    go_wp2_with fail
    (with_reducible refine HC.out.mono ?_); rintro e w7 ⟨cv, rfl, -, hb7⟩
    have h67 : w6.heap.size ≤ w7.heap.size := hb7.size
    have HB7 := Lib.hid (show Below w4.heap.size w4 w7 from bel_trans (bel_trans HB5.out HB6.out) hb7)
    have HB57 := Lib.hid (bel_trans HB6.out hb7)
    have HO7 := Lib.hid (HO5.out.below HB57.out)
    have HQ7 := Lib.hid (HO6.out.below hb7)
    have HD7 := Lib.hid (show ∀ (i : Nat) (q : Sl), ps[i]? = some q → ∃ qs, OwnK recL 41 w7 w4.heap.size q.val qs ∧ 1 ≤ qs.length ∧ ∀ b, q.val.ownBlock = some b → b < w5.heap.size from fun i q hq => by
      obtain ⟨qs, h1, h2⟩ := HD5.out i q hq
      exact ⟨qs, h1.below HB57.out, h2, fun b hb => (OwnK.lt h1 b hb).2⟩)
    clear hb7 HC HO5 HO6 HD5 HB57
    obtain ⟨pA, pn, pc, rfl⟩ : ∃ A n c, pv = .slice A n c := by
      rcases HO7.out.forms with ⟨rfl, _⟩ | ⟨g, c, rfl, _⟩
      · exact ⟨_, _, _, rfl⟩
      · exact ⟨_, _, _, rfl⟩
    have hpn : pn = ps.length := by
      obtain ⟨A, c, he, _⟩ := HO7.out.read
      cases he; rfl
    have HPN := Lib.hid hpn; clear hpn
    have hpc : pn ≤ 9223372036854775807 := by
      obtain ⟨A, c, he, h1, h2, _⟩ := HO7.out.read
      cases he; unfold maxLen at h2; omega
    obtain ⟨qA, qn, qc, rfl⟩ := ownK_sl HQ7.out
    have hqn2 : qn = qq.length := by
      obtain ⟨A, c, n, he, h1, _⟩ := (OwnK.read HQ7.out).bds
      cases he; exact h1
    have hqc : qn ≤ 9223372036854775807 := by
      obtain ⟨A, c, n, he, _, h1, h2⟩ := (OwnK.read HQ7.out).bds
      cases he; omega
    have HQNN := Lib.hid hqn2; clear hqn2
    go_wp2_with fail
    go_loopw [12, 39] (fun _ iv wr => ∃ j : Nat, iv = .int .i64 j ∧ j ≤ pn ∧ Below w4.heap.size w4 wr ∧ w7.heap.size ≤ wr.heap.size ∧ Hid (OwnV Sl.val 24 wr w4.heap.size (.slice pA pn pc) ps) ∧ Hid (OwnK recL 41 wr w5.heap.size (.slice qA qn qc) qq) ∧ Hid (∀ (i : Nat) (q : Sl), ps[i]? = some q → ∃ qs, OwnK recL 41 wr w4.heap.size q.val qs ∧ 1 ≤ qs.length ∧ ∀ b, q.val.ownBlock = some b → b < w5.heap.size)) (fun _ iv _ => pn - (intOf iv).toNat)
    case atStart => exact ⟨0, rfl, Nat.zero_le _, HB7.out, Nat.le_refl _, HO7, HQ7, HD7⟩
    case round =>
      clear HO7 HQ7 HD7 HB7
      obtain ⟨j, rfl, hj, hbel, hsz7, HO, HQ, HD⟩ := hrel
      by_cases hlt : j < pn
      · have hjp : j < ps.length := by have := HPN.out; omega
        obtain ⟨⟨eA, en, ec⟩, hpj⟩ : ∃ q, ps[j]? = some q := ⟨ps[j], List.getElem?_eq_getElem hjp⟩
        obtain ⟨qs, h1, h2, h3⟩ := HD.out j _ hpj
        obtain ⟨g1, c1, he, hr1, -, -⟩ := own_some (l := qs) h1 (fun e => by rw [e] at h2; simp at h2)
        cases he
        obtain ⟨pd, rfl, hpb, hpcell⟩ : ∃ ad, pA = some ad ∧ ad.block < wr.heap.size ∧ wr.cell? (ad.add j) = some (.slice (some ⟨g1, 0, none⟩) qs.length ec) := by
          obtain ⟨A, c, he, _, _, hr⟩ := HO.out.read
          cases he
          exact hr j _ hpj
        obtain ⟨x, hx⟩ : ∃ x, qs[0]? = some x := ⟨qs[0], List.getElem?_eq_getElem (by omega)⟩
        have k0 : wr.cell? ⟨g1, 0, none⟩ = some (.int .i64 x.seq) := RowK.at hr1 (i := 0) hx 0 (u := .int .i64 x.seq) rfl
        have f0 : wr.frozen? ⟨g1, 0, none⟩ = false := RowK.frozen hr1 0
        have hg1 := (RowK.lt hr1).1
        have hg1b := h3 g1 rfl
        have hst := RowK.store hr1 0 0 (.int .i64 99) (x := x) (x' := ⟨99, x.row⟩) hx (by decide) rfl
        have HON := Lib.hid (show OwnV Sl.val 24 (wr.setCell ⟨g1, 0, none⟩ (.int .i64 99)) w4.heap.size (.slice (some pd) pn pc) ps from by
          rcases own_apart HO.out h1 (by decide) with h | h
          · cases h
          · exact ownsRow_setCell_other HO.out (a := ⟨g1, 0, none⟩) (fun e => h (by rw [e]; rfl)) _)
        have HQN2 := Lib.hid (show OwnK recL 41 (wr.setCell ⟨g1, 0, none⟩ (.int .i64 99)) w5.heap.size (.slice qA qn qc) qq from ownsRow_setCell_below HQ.out (a := ⟨g1, 0, none⟩) hg1b _)
        have HDN := Lib.hid (show ∀ (i : Nat) (q : Sl), ps[i]? = some q → ∃ qs, OwnK recL 41 (wr.setCell ⟨g1, 0, none⟩ (.int .i64 99)) w4.heap.size q.val qs ∧ 1 ≤ qs.length ∧ ∀ b, q.val.ownBlock = some b → b < w5.heap.size from fun i q hq => by
          obtain ⟨qs', e1, e2, e3⟩ := HD.out i q hq
          obtain ⟨g2, c2, he2, hr2, -, -⟩ := own_some (l := qs') e1 (fun e => by rw [e] at e2; simp at e2)
          by_cases hgg : g2 = g1
          · subst hgg
            obtain ⟨x', hx'⟩ : ∃ x, qs'[0]? = some x := ⟨qs'[0], List.getElem?_eq_getElem (by omega)⟩
            have hst2 := RowK.store hr2 0 0 (.int .i64 99) (x := x') (x' := ⟨99, x'.row⟩) hx' (by decide) rfl
            refine ⟨qs'.set 0 ⟨99, x'.row⟩, ?_, by rw [List.length_set]; exact e2, e3⟩
            rw [he2]
            have h := RowK.own_at hst2 (n := qs'.length) (by rw [List.length_set]) rfl
            exact h
          · exact ⟨qs', by rw [he2]; exact RowK.other hr2 (fun e => hgg e.symm) _, e2, e3⟩)
        have HBN := Lib.hid (hbel.setCell (p := ⟨g1, 0, none⟩) hg1 (.int .i64 99))
        have hd0 : decide ((j : Int) < (pn : Int)) = true := decide_eq_true (by omega)
        have hd0' : decide (j < pn) = true := decide_eq_true hlt
        have hjp' : (j : Int) < (pn : Int) := by omega
        have hq1 : (0 : Int) < (qs.length : Int) := by omega
        have hq1' : 0 < qs.length := by omega
        clear hst h1 hr1 h3 hpj hx hg1b HO HQ HD hjp hpb
        generalize qs.length = n1 at *
        go_wp2_with fail
        go_roundw
        all_goals first
          | exact ⟨j + 1, by go_num, hlt, HBN.out, by rw [World.size_setCell]; exact hsz7, HON, HQN2, HDN⟩
          | (simp [intOf]; omega)
      have hd0 : decide ((j : Int) < (pn : Int)) = false := decide_eq_false (by omega)
      have HBE := Lib.hid hbel
      clear HO HD hbel hj
      go_wp2_with fail
      obtain ⟨WO, rfl⟩ : ∃ WO, WO = wr := ⟨_, rfl⟩
      go_loopw [13, 51] (fun _ iv wr => ∃ (j : Nat) (qs : List Rs), iv = .int .i64 j ∧ j ≤ qn ∧ Below w4.heap.size w4 wr ∧ w7.heap.size ≤ wr.heap.size ∧ OwnK recL 41 wr w5.heap.size (.slice qA qn qc) qs) (fun _ iv _ => qn - (intOf iv).toNat)
      case atStart => exact ⟨0, qq, rfl, Nat.zero_le _, HBE.out, hsz7, HQ.out⟩
      case round =>
        clear HBE HQ
        obtain ⟨i, qs, rfl, hi, hbel, hszr, hown⟩ := hrel
        by_cases hlti : i < qn
        · have hqlen : qn = qs.length := by
            obtain ⟨A, c, n, he, h1, _⟩ := (OwnK.read hown).bds
            cases he; exact h1
          obtain ⟨g1, c1, he, hr1, -, -⟩ := own_some (l := qs) hown (fun e => by rw [e] at hqlen; simp at hqlen; omega)
          cases he
          obtain ⟨x, hx⟩ : ∃ x, qs[i]? = some x := ⟨qs[i], List.getElem?_eq_getElem (by omega)⟩
          have k0 : wr.cell? ⟨g1, i * 2, none⟩ = some (.int .i64 x.seq) := RowK.at hr1 (i := i) hx 0 (u := .int .i64 x.seq) rfl
          have f0 : wr.frozen? ⟨g1, i * 2, none⟩ = false := RowK.frozen hr1 (i * 2)
          have hg1 := (RowK.lt hr1).1
          have HST := Lib.hid (show OwnK recL 41 (wr.setCell ⟨g1, i * 2, none⟩ (.int .i64 98)) w5.heap.size (.slice (some ⟨g1, 0, none⟩) qs.length qc) (qs.set i ⟨98, x.row⟩) from by
            have h := RowK.own_at (RowK.store hr1 i 0 (.int .i64 98) (x := x) (x' := ⟨98, x.row⟩) hx (by decide) rfl) (n := qs.length) (by rw [List.length_set]) rfl
            exact h)
          have HBN := Lib.hid (hbel.setCell (p := ⟨g1, i * 2, none⟩) (by show w4.heap.size ≤ g1; omega) (.int .i64 98))
          have hd1 : decide ((i : Int) < (qs.length : Int)) = true := decide_eq_true (by omega)
          have hd1' : decide (i < qs.length) = true := decide_eq_true hlti
          have hiq : (i : Int) < (qs.length : Int) := by omega
          clear hown hr1 hx
          generalize qs.length = n1 at *
          go_wp2_with fail
          go_roundw
          all_goals first
            | exact ⟨i + 1, _, by go_num, hlti, HBN.out, by rw [World.size_setCell]; exact hszr, HST.out⟩
            | (simp [intOf]; omega)
        have hd1 : decide ((i : Int) < (qn : Int)) = false := decide_eq_false (by omega)
        have HRS8 := Lib.hid ((HRS.out.below hbel).more hbel.size)
        have HRZ8 := Lib.hid (((HRZ.out.step HB4.out).below hbel).more hbel.size)
        have HA := fun w => Lib.hid (awake15_any w)
        have HBF := Lib.hid hbel
        have h77 : wr.cell? ⟨g, zn * 2, none⟩ = some (.int .i64 77) := by rw [hbel.cell (p := ⟨g, zn * 2, none⟩) HG4.out]; exact HK77.out
        have H77 := Lib.hid h77
        have hznc' : (zn : Int) + 1 ≤ (c : Int) := by omega
        have hzz : (zn : Int) < (zn : Int) + 1 := by omega
        have hG4 := HG4.out
        clear hown hbel h77
        go_wp2_with (first
          | (go_at_call 16; (with_reducible refine (HA _).out.mono ?_); rintro e wA ⟨rfl, hbx⟩; have HBA := Lib.hid hbx; have HRA := Lib.hid (HRS8.out.step hbx); have HRB := Lib.hid (HRZ8.out.step hbx); clear hbx)
          | (go_at_call 27; (with_reducible refine (same_recs _ _ lz lz wA HRA.out HRB.out).mono ?_); rintro e wB ⟨b, rfl, hbb, hbx⟩; obtain rfl : b = true := hbb.2 rfl; have HBC := Lib.hid (bel_trans HBA.out hbx); have h77 : wB.cell? ⟨g, zn * 2, none⟩ = some (.int .i64 77) := by rw [HBC.out.cell (p := ⟨g, zn * 2, none⟩) (by show g < wr.heap.size; omega)]; exact H77.out))
        go_ret
        exact RetB.mk rfl (HBW.out.trans ((HBF.out.trans (HBC.out.mono (by omega))).mono (bel_trans HB2.out HB4.out).size))
theorem batchKeepsArguments_holds : Rows.BatchKeepsArgumentsSaid :=
  OpenClaim.holds_of_wide 11 Try.f11 rfl rfl rfl rfl rfl rfl rfl ⟨rfl, rfl, rfl, rfl, rfl⟩ rfl rfl rfl rfl rfl (by kernel_rfl) Try.func11 (by kernel_rfl)
    (of_decide_eq_true (by kernel_rfl)) (by unfold Func.isWrapper; first | (rw [if_pos (by decide +kernel)]; kernel_rfl) | (rw [if_neg (by decide +kernel)]; exact ⟨rfl, rfl⟩))
    (fun os started H enc _ => batchKeepsArguments_lifted os started H enc)
end Go.Proofs.Ytjbkeipagdmlpaa
