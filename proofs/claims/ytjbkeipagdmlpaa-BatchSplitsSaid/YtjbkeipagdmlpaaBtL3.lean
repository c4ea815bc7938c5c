/- The statements' own package: null, Columns. -/
import Derived.Test.YtjbkeipagdmlpaaBt6b
import Derived.Test.YtjbkeipagdmlpaaBtP
import Derived.Test.YtjbkeipagdmlpaaBtO
import Derived.Test.YtjbkeipagdmlpaaBt7b
namespace Go.Proofs.Ytjbkeipagdmlpaa
open Go.RowKit Go.VB Go.VS Go.VL Go.SC Go.CK Go.ST Go.MK Go.RS
set_option linter.constructorNameAsVariable false
theorem rnul_any (w : World) : Calls Try.prog 54 #[] w (RetB (.agg #[.bool true, .int .i64 0, .string ⟨#[]⟩]) w) := by
  go_enter Try.func54, Try.ntmps54
  go_wp2
  refine bodyPost_ret (v := .agg #[.bool true, .int .i64 0, .string ⟨#[]⟩]) (by simp [results, Try.results54, go_sem]) rfl ?_
  exact RetB.mk rfl (by go_grown)
set_option maxRecDepth 100000 in
set_option maxHeartbeats 1000000 in
theorem rcols_any (x : Value) (l : List Rc) (n : Int) (W : World) (hx : RdR W W.heap.size x l) (hb : l.length * 32 ≤ 140737488351232) :
    Calls Try.prog 36 #[x, .int .i64 n] W (RetLL (colsL n l) W) := by
  by_cases h1 : n < 1
  · rw [colsL_out (.inl h1)]
    have hd : decide (n < 1) = true := decide_eq_true h1
    clear h1 hx hb
    go_enter Try.func36, Try.ntmps36
    go_wp2
    go_ret
    exact RetLL.mk rfl (RdLL.nil _ _) (Below.refl _ _)
  have hd1 : decide (n < 1) = false := decide_eq_false h1
  by_cases h2 : 12 < n
  · rw [colsL_out (.inr h2)]
    have hd : decide (12 < n) = true := decide_eq_true h2
    clear h1 h2 hx hb
    go_enter Try.func36, Try.ntmps36
    go_wp2
    go_ret
    exact RetLL.mk rfl (RdLL.nil _ _) (Below.refl _ _)
  have hd2 : decide (12 < n) = false := decide_eq_false h2
  obtain ⟨k, rfl⟩ : ∃ k : Nat, n = k := ⟨n.toNat, by omega⟩
  rw [colsL_in (by omega) (by omega)]
  obtain ⟨A, c, n0, rfl, hn0, hnc, hcm⟩ := hx.bds
  have HX := Lib.hid hx; have HZ := Lib.hid hb; have HK := Lib.hid (show k ≤ 12 by omega); have HN := Lib.hid hn0
  have HNU := fun w => Lib.hid (rnul_any w)
  clear hx hb h1 h2 hn0
  go_enter Try.func36, Try.ntmps36
  go_wp2
  clear hd1 hd2
  go_loopw [5, 6, 7, 9, 23] (fun ov iv _ _ _ wr => ∃ (j : Nat) (ps : List Sl), iv = .int .i64 j ∧ j ≤ k ∧ OwnV Sl.val 36 wr W.heap.size ov ps ∧ Hid (DeepLO 32 wr W.heap.size ps ((List.range j).map fun c => colL c l)) ∧ Below W.heap.size W wr) (fun _ iv _ _ _ _ => k - (intOf iv).toNat)
  case atStart => exact ⟨0, [], rfl, Nat.zero_le _, OwnV.nil _ _ _ _, Lib.hid (DeepLO.nil _ _ _), Below.refl _ _⟩
  case round =>
    obtain ⟨j, ps, rfl, hj, hown, HD, hbel⟩ := hrel
    by_cases hlt : j < k
    case neg =>
      obtain rfl : j = k := by omega
      have HRD := Lib.hid (show RdLL wr wr.heap.size _ ((List.range j).map fun c => colL c l) from ⟨ps, hown.read, HD.out.read⟩)
      have hd0 : decide ((j : Int) < (j : Int)) = false := decide_eq_false (by omega)
      clear hown HD
      go_wp2
      go_ret
      exact RetLL.mk rfl HRD.out hbel
    have hd0 : decide ((j : Int) < (k : Int)) = true := decide_eq_true (by omega)
    have hd0' : decide (j < k) = true := decide_eq_true hlt
    have HOWN := Lib.hid hown; have HBEL := Lib.hid hbel
    have hwW : W.heap.size ≤ wr.heap.size := hbel.size
    have HPL := Lib.hid (show ps.length ≤ 12 by have := HD.out.1; rw [List.length_map, List.length_range] at this; have := HK.out; omega)
    clear hown hbel
    obtain ⟨WO, rfl⟩ : ∃ WO, WO = wr := ⟨_, rfl⟩
    go_wp2_with fail
    go_loopw [7, 9, 23] (fun cv _ iv wr => ∃ i : Nat, iv = .int .i64 i ∧ i ≤ n0 ∧ OwnL 32 wr WO.heap.size cv (colL j (l.take i)) ∧ Below WO.heap.size WO wr) (fun _ _ iv _ => n0 - (intOf iv).toNat)
    case atStart => exact ⟨0, rfl, Nat.zero_le _, OwnL.nil _ _ _, Below.refl _ _⟩
    case round =>
      obtain ⟨i, rfl, hi, hcol, hbi⟩ := hrel
      have hlc : (colL j (l.take i)).length ≤ 4398046510976 := by rw [colL_len, List.length_take]; have := HZ.out; omega
      by_cases hlti : i < n0
      case neg =>
        have HF := Lib.hid (show l.take i = l from List.take_of_length_le (by have := HN.out; omega))
        have hd1 : decide ((i : Int) < (n0 : Int)) = false := decide_eq_false (by omega)
        rw [HF.out] at hcol
        obtain ⟨sA, sn, sc, rfl⟩ := ownL_sl hcol
        have hbl := (Below.refl wr.heap.size wr).alloc (Nat.le_refl _) (.cells #[.slice sA sn sc] 36)
        have HO1 := Lib.hid ((HOWN.out.below hbi).alloc (.cells #[.slice sA sn sc] 36))
        have HP1 := Lib.hid ((hcol.lower hwW).below hbl)
        have HD1 := Lib.hid ((HD.out.below hbi).below hbl)
        have HRD := Lib.hid (RdV.one Sl.val wr (⟨sA, sn, sc⟩ : Sl) 1 36 (Nat.le_refl 1) (by decide))
        have HLE := Lib.hid (show W.heap.size ≤ (wr.alloc (.cells #[.slice sA sn sc] 36)).heap.size from Nat.le_trans hwW (Nat.le_trans hbi.size hbl.size))
        have HBB := Lib.hid ((HBEL.out.trans (hbi.mono hwW)).trans (hbl.mono (Nat.le_trans hwW hbi.size)))
        have hd1n : decide (i < n0) = false := decide_eq_false hlti
        clear hbi hbl hcol hlc
        go_wp2_with (at_builtin; refine wpl_appV (f := Sl.val) (fun _ => rfl) (.slice none 0 0) rfl rfl _ _ 29 rfl W.heap.size 36 24 Try.underlying29 Try.infSl _ ps rfl HO1.out _ _ [⟨sA, sn, sc⟩] rfl HRD.out (by have := HPL.out; unfold maxLen; simp only [List.length_cons, List.length_nil]; omega) (by have := HPL.out; simp only [List.length_cons, List.length_nil]; omega) HLE.out ?_)
        intro v' w' hown' hb' hg'
        have HDN := Lib.hid (show DeepLO 32 w' W.heap.size (ps ++ [⟨sA, sn, sc⟩]) ((List.range (j + 1)).map fun c => colL c l) from by
          rw [List.range_succ, List.map_append]
          exact (HD1.out.keep HO1.out (by decide) hg').snoc (p := ⟨sA, sn, sc⟩) (HP1.out.keep hg' (own_apart HP1.out HO1.out (by decide))))
        have HBN := Lib.hid (HBB.out.trans hb')
        have hk12 := HK.out
        clear hb' hg' HD1 HP1 HO1 HBB
        go_wp2_with fail
        go_roundw
        all_goals first
          | (simp [intOf]; omega)
          | exact ⟨j + 1, _, by go_num, hlt, hown', HDN, HBN.out⟩
      have hd1 : decide ((i : Int) < (n0 : Int)) = true := decide_eq_true (by omega)
      have hd1' : decide (i < n0) = true := decide_eq_true hlti
      have hil : i < l.length := by have := HN.out; omega
      have hli : l[i]? = some l[i] := List.getElem?_eq_getElem hil
      obtain ⟨ad, rA, rn, rc, rfl, -, q0, q1, hrn, qr⟩ := (HX.out.below (HBEL.out.trans (hbi.mono hwW))).at hli
      have HCS := Lib.hid (colL_snoc (c := j) hli)
      generalize l[i] = R at q0 q1 qr hrn HCS
      obtain ⟨q, row⟩ := R
      simp only at q0 q1 qr hrn HCS
      have hbv := (Below.refl wr.heap.size wr).alloc (Nat.le_refl _) (.cells #[.int .i64 q, .slice rA rn rc] 41)
      have HRN := Lib.hid hrn
      have HCV := Lib.hid (hcol.below hbv)
      have HBV := Lib.hid (hbi.trans (hbv.mono hbi.size))
      have hbvs := hbv.size
      have hwi := hbi.size
      have HLC := Lib.hid hlc
      have qrv := qr.below (hbv.mono (show W.heap.size ≤ wr.heap.size by omega))
      have hisz : i + 1 ≤ 4398046510976 := by have := HZ.out; omega
      clear hil hli hrn hcol hbi hlc qr
      by_cases hc : j < rn
      · have hrc : row[j]? = some (row[j]'(by rw [← HRN.out]; exact hc)) := List.getElem?_eq_getElem _
        obtain ⟨ad2, rfl, hab2, p0, p1, p2⟩ := qrv.at hrc
        have HG := Lib.hid (show row.getD j ⟨true, 0, ⟨#[]⟩⟩ = row[j]'(by rw [← HRN.out]; exact hc) by rw [List.getD_eq_getElem?_getD, hrc]; rfl)
        generalize row[j]'_ = Y at p0 p1 p2 HG
        obtain ⟨yb, yn, ys⟩ := Y
        simp only at p0 p1 p2
        have hdc : decide ((j : Int) < (rn : Int)) = true := decide_eq_true (by omega)
        have hdc' : decide (j < rn) = true := decide_eq_true hc
        have hjr : (j : Int) < (rn : Int) := by omega
        have hx2 := RdK.lit (L := valL) (wr.alloc (.cells #[.int .i64 q, .slice (some ad2) rn rc] 41)) [⟨yb, yn, ys⟩] 1 32 (Nat.le_refl 1) (by decide)
        rw [show (wr.alloc (.cells #[.int .i64 q, .slice (some ad2) rn rc] 41)).heap.size = wr.heap.size + 1 from by simp] at hx2
        have HX2 := Lib.hid hx2
        clear hx2
        have HO := Lib.hid (ownL_K (HCV.out.alloc (.cells #[.bool yb, .int .i64 yn, .string ys] 32)))
        have HL3 := Lib.hid (show WO.heap.size ≤ ((wr.alloc (.cells #[.int .i64 q, .slice (some ad2) rn rc] 41)).alloc (.cells #[.bool yb, .int .i64 yn, .string ys] 32)).heap.size by simp; omega)
        have HBW := Lib.hid (HBV.out.alloc (by omega) (.cells #[.bool yb, .int .i64 yn, .string ys] 32))
        clear hrc qrv HCV HBV hbv
        go_wp2_with (at_builtin; refine wpl_appK (L := valL) rfl _ _ 36 rfl WO.heap.size 32 32 Try.underlying36 Try.infVal _ (colL j (l.take i)) rfl HO.out _ _ [⟨yb, yn, ys⟩] rfl HX2.out (by have := HLC.out; unfold maxLen; simp only [List.length_cons, List.length_nil]; omega) (by have := HLC.out; simp only [List.length_cons, List.length_nil]; omega) HL3.out ?_)
        intro v' w' hown' hb' _
        have HC2 := Lib.hid (show OwnL 32 w' WO.heap.size v' (colL j (l.take (i + 1))) by rw [HCS.out, HG.out]; exact hown')
        go_wp2_with fail
        go_roundw
        all_goals first
          | (simp [intOf]; omega)
          | exact ⟨i + 1, by go_num, hlti, HC2.out, HBW.out.trans hb'⟩
      · have HG := Lib.hid (show row.getD j ⟨true, 0, ⟨#[]⟩⟩ = (⟨true, 0, ⟨#[]⟩⟩ : Vl) by rw [List.getD_eq_getElem?_getD, List.getElem?_eq_none (by rw [← HRN.out]; omega)]; rfl)
        have hdc : decide ((j : Int) < (rn : Int)) = false := decide_eq_false (by omega)
        have hdc' : decide (j < rn) = false := decide_eq_false hc
        clear qrv hbv
        go_wp2_with fail
        (with_reducible refine (HNU _).out.mono ?_); rintro e w2 ⟨rfl, hb2⟩
        have hb2s := hb2.size
        have HX2 := Lib.hid (RdK.lit (L := valL) w2 [⟨true, 0, ⟨#[]⟩⟩] 1 32 (Nat.le_refl 1) (by decide))
        have HO := Lib.hid (ownL_K ((HCV.out.below hb2).alloc (.cells #[.bool true, .int .i64 0, .string ⟨#[]⟩] 32)))
        have HL3 := Lib.hid (show WO.heap.size ≤ (w2.alloc (.cells #[.bool true, .int .i64 0, .string ⟨#[]⟩] 32)).heap.size by simp; omega)
        have HBW := Lib.hid ((HBV.out.trans (hb2.mono (by omega))).alloc (by omega) (.cells #[.bool true, .int .i64 0, .string ⟨#[]⟩] 32))
        clear HCV HBV hb2
        go_wp2_with (at_builtin; refine wpl_appK (L := valL) rfl _ _ 36 rfl WO.heap.size 32 32 Try.underlying36 Try.infVal _ (colL j (l.take i)) rfl HO.out _ _ [⟨true, 0, ⟨#[]⟩⟩] rfl HX2.out (by have := HLC.out; unfold maxLen; simp only [List.length_cons, List.length_nil]; omega) (by have := HLC.out; simp only [List.length_cons, List.length_nil]; omega) HL3.out ?_)
        intro v' w' hown' hb' _
        have HC2 := Lib.hid (show OwnL 32 w' WO.heap.size v' (colL j (l.take (i + 1))) by rw [HCS.out, HG.out]; exact hown')
        go_wp2_with fail
        go_roundw
        all_goals first
          | (simp [intOf]; omega)
          | exact ⟨i + 1, by go_num, hlti, HC2.out, HBW.out.trans hb'⟩
end Go.Proofs.Ytjbkeipagdmlpaa

namespace Go.Proofs.Ytjbkeipagdmlpaa
open Go.RowKit Go.VB Go.VS Go.SC Go.CK Go.ST Go.MK Go.RS Go.ChangeShapes Go.WideShapes Go.ChangeAt
set_option linter.constructorNameAsVariable false
set_option maxRecDepth 100000 in
set_option maxHeartbeats 4000000 in
theorem batchSplits_lifted (os : Os) (started : os.Started) (H : Type) (enc : TypeId × Value → H) :
    ReturnsInHanded {} Try.checked os 9 .any (Rows.batchSplitsSpec.pre6 enc Try.prog Try.f9 Rows.batchSplitsRow.domain false) (Rows.batchSplitsSpec.post enc Try.prog Try.f9 false true false false) := by
  refine law_lifted (C := Try.checked) (tb := 4) started Try.own Try.laidOut (by kernel_rfl) Try.func9
    (ChangeSpec.witness6 (enc := enc) (C := Try.checked) false ⟨#[], #[.slice none 0 0, .int .i64 0, .slice none 0 0, .slice none 0 0], []⟩ 8 (by kernel_rfl) (by kernel_rfl) (by kernel_rfl) (by kernel_rfl))
    rfl rfl Try.underlying4 (by kernel_rfl) (fun ds h => ?_) (fun W base args ds p hval0 hA0 hsz0 hlt => ?_)
  · have h' : ds.length = Try.f9.params.toList.length := h
    rw [Try.params9] at h'
    match ds, h' with
    | [_, _, _, _], _ => rfl
  · have hval : ∀ (j : Nat) t v, Try.f9.params[j]? = some t → args[j]? = some v → Value.okWide Try.prog W .any base t v := hval0
    have hA : DataW.TrodAll enc Try.prog W 0 (fun _ => true) true Try.f9.params.toList args.toList ds p := hA0
    have hsz : (DataW.weightsEach Try.prog Try.f9.params.toList ds).all (· ≤ reachBytes) = true := hsz0
    rw [Try.params9] at hA hval hsz
    clear hA0 hval0 hsz0
    obtain ⟨v0, vs0, d0, ds0, p0, q0, hargs, rfl, rfl, h0, r0⟩ := trodAll_cons hA
    obtain ⟨v1, vs1, d1, ds1, p1, q1, rfl, rfl, rfl, h1, r1⟩ := trodAll_cons r0
    obtain ⟨v2, vs2, d2, ds2, p2, q2, rfl, rfl, rfl, h2, r2⟩ := trodAll_cons r1
    obtain ⟨v3, vs3, d3, ds3, p3, q3, rfl, rfl, rfl, h3, r3⟩ := trodAll_cons r2
    obtain ⟨rfl, rfl, rfl⟩ := trodAll_nil r3
    obtain rfl : args = #[v0, v1, v2, v3] := by cases args; simp_all
    obtain ⟨zraw, rraw, braw, mraw⟩ := open_recs (hval 0 24 v0 rfl rfl) h0 hsz (j := 0) rfl rfl
    obtain ⟨n, rfl, rfl, rfl, wn⟩ := open_int Try.underlying3 (hval 1 3 v1 rfl rfl) h1
    obtain ⟨zx, rx, wx, bx⟩ := open_rdI Try.underlying30 Try.underlying3 (by kernel_rfl) (hval 2 30 v2 rfl rfl) h2 hsz (j := 2) rfl rfl
    obtain ⟨zl, rl, wl, bl⟩ := open_rdI Try.underlying30 Try.underlying3 (by kernel_rfl) (hval 3 30 v3 rfl rfl) h3 hsz (j := 3) rfl rfl
    change Calls Try.prog 9 #[v0, .int .i64 n, v2, v3] W (RetB (.bool true) W)
    have hK := Lib.hid (kSch_any W v2 zx rx wx)
    go_enter Try.func9, Try.ntmps9
    go_wp2_with fail
    (with_reducible refine hK.out.mono ?_); rintro e w1 ⟨hb1, yv, ycs, yk, rfl, hoy, hko⟩
    have hyr := OwnC.read hoy
    obtain ⟨yA, yc, rfl, -, -, -⟩ := id hyr
    have hVy := Var2.new w1 (.slice yA ycs.length yc) (.int .i64 yk) 28
    have hba := (Below.refl w1.heap.size w1).alloc (Nat.le_refl _) (.cells #[(.slice yA ycs.length yc), .int .i64 yk] 28)
    obtain ⟨X1, hX1⟩ : ∃ X, w1.alloc (.cells #[(.slice yA ycs.length yc), .int .i64 yk] 28) = X := ⟨_, rfl⟩
    rw [hX1] at hVy hba
    have HX1 := Lib.hid hX1
    have hB1 := bel_trans hb1 hba
    have hyr1 := hyr.step hba
    have hL0 := (kloose_any X1 ycs (.slice yA ycs.length yc) yk v3 zl 12 (by decide) hyr1 (kok_12 hko) (kok_ty hko) (rl.step hB1) wl)
    rw [show ((12 : Nat) : Int) = 12 from rfl] at hL0
    have hL := Lib.hid hL0
    clear hX1 hK hb1 hoy hba hyr hL0
    go_wp2_with fail
    rw [HX1.out]
    generalize Value.slice yA ycs.length yc = yv at *
    (with_reducible refine hL.out.mono ?_); rintro e w2 ⟨u, lz, rfl, hz, hzl, hok, hb2⟩
    have hB2 := bel_trans hB1 hb2
    have hy2 := hyr1.step hb2
    have hV2 := hVy.step hb2
    clear hL hyr1 hVy
    have hP := fun w => Lib.hid (pick_at n 14 w wn (by omega) (by omega))
    have hp := pickN_bd n (n := 14) (by omega)
    generalize pickN n 14 = p at *
    obtain ⟨p1, p2⟩ := hp
    have hsub : wrap64 (p - 1) = p - 1 := by unfold wrap64; omega
    have hrd := hz.read
    have hzr : ∀ r ∈ lz, r.row.length * 32 ≤ 140737488351232 := fun r hr => by have h1 := (okRec_sound (hok r hr)).2.2; have h2 := kok_12 hko; rw [h1]; omega
    have hraw := rraw.step hB2
    have HA := fun w => Lib.hid (awake15_any w)
    have HS1 := fun w (h : Below w2.heap.size w2 w) => Lib.hid (bsplit_any v0 zraw n w (hraw.step h) braw mraw)
    have HR1 := fun w (h : Below w2.heap.size w2 w) => Lib.hid (rsplit_any v0 zraw n w (hraw.step h) braw)
    have HC1 := fun w (h : Below w2.heap.size w2 w) => Lib.hid (bcols_any v0 zraw n w (hraw.step h) braw)
    have HD1 := fun w (h : Below w2.heap.size w2 w) => Lib.hid (rcols_any v0 zraw n w (hraw.step h) braw)
    have HS2 := fun w (h : Below w2.heap.size w2 w) => Lib.hid (bsplit_any u lz (p - 1) w (hrd.step h) (by omega) hzr)
    have HR2 := fun w (h : Below w2.heap.size w2 w) => Lib.hid (rsplit_any u lz (p - 1) w (hrd.step h) (by omega))
    have HC2 := fun w (h : Below w2.heap.size w2 w) => Lib.hid (bcols_any u lz (p - 1) w (hrd.step h) (by omega))
    have HD2 := fun w (h : Below w2.heap.size w2 w) => Lib.hid (rcols_any u lz (p - 1) w (hrd.step h) (by omega))
    have HB2 := Lib.hid hB2
    clear hz hrd hzr hraw hok hzl hko hy2 hV2 hB2 hb2 hB1
    go_wp2_with fail
    (with_reducible refine (hP _).out.mono ?_); rintro e w3 ⟨rfl, rfl⟩
    clear hP p1 p2
    go_wp2_with (first
      | (go_at_call 16; (with_reducible refine (HA _).out.mono ?_); rintro e wA ⟨rfl, hbx⟩; have HBA := Lib.hid hbx; clear hbx)
      | (go_at_call 12; (with_reducible refine (HS1 _ HBA.out).out.mono ?_); rintro e wS0 ⟨u0, qs0, rfl, ho, hd, hbx⟩; have HBS0 := Lib.hid (bel_trans HBA.out hbx); have HX0 := Lib.hid (show RdP wS0 wS0.heap.size u0 _ from ⟨_, OwnV.read ho, hd.read⟩); clear ho hd hbx)
      | (go_at_call 33; (with_reducible refine (HR1 _ HBS0.out).out.mono ?_); rintro e wR0 ⟨t0, rfl, hd, hbx⟩; have HBR0 := Lib.hid (bel_trans HBS0.out hbx); have HY0 := Lib.hid hd; have HZ0 := Lib.hid (HX0.out.step hbx); clear hd hbx)
      | (go_at_call 32; (with_reducible refine (same_parts _ _ _ _ wR0 HZ0.out HY0.out).mono ?_); rintro e wQ0 ⟨b, rfl, hbb, hbx⟩; obtain rfl : b = true := hbb.2 rfl; have HBQ0 := Lib.hid (bel_trans HBR0.out hbx); clear hbb hbx)
      | (go_at_call 12; (with_reducible refine (HS2 _ HBQ0.out).out.mono ?_); rintro e wS1 ⟨u1, qs1, rfl, ho, hd, hbx⟩; have HBS1 := Lib.hid (bel_trans HBQ0.out hbx); have HX1 := Lib.hid (show RdP wS1 wS1.heap.size u1 _ from ⟨_, OwnV.read ho, hd.read⟩); clear ho hd hbx)
      | (go_at_call 33; (with_reducible refine (HR2 _ HBS1.out).out.mono ?_); rintro e wR1 ⟨t1, rfl, hd, hbx⟩; have HBR1 := Lib.hid (bel_trans HBS1.out hbx); have HY1 := Lib.hid hd; have HZ1 := Lib.hid (HX1.out.step hbx); clear hd hbx)
      | (go_at_call 32; (with_reducible refine (same_parts _ _ _ _ wR1 HZ1.out HY1.out).mono ?_); rintro e wQ1 ⟨b, rfl, hbb, hbx⟩; obtain rfl : b = true := hbb.2 rfl; have HBQ1 := Lib.hid (bel_trans HBR1.out hbx); clear hbb hbx)
      | (go_at_call 35; (with_reducible refine (HC1 _ HBQ1.out).out.mono ?_); rintro e wS2 ⟨u2, rfl, hd, hbx⟩; have HBS2 := Lib.hid (bel_trans HBQ1.out hbx); have HX2 := Lib.hid hd; clear hd hbx)
      | (go_at_call 36; (with_reducible refine (HD1 _ HBS2.out).out.mono ?_); rintro e wR2 ⟨t2, rfl, hd, hbx⟩; have HBR2 := Lib.hid (bel_trans HBS2.out hbx); have HY2 := Lib.hid hd; have HZ2 := Lib.hid (HX2.out.step hbx); clear hd hbx)
      | (go_at_call 34; (with_reducible refine (same_lists _ _ _ _ wR2 HZ2.out HY2.out).mono ?_); rintro e wQ2 ⟨b, rfl, hbb, hbx⟩; obtain rfl : b = true := hbb.2 rfl; have HBQ2 := Lib.hid (bel_trans HBR2.out hbx); clear hbb hbx)
      | (go_at_call 35; (with_reducible refine (HC2 _ HBQ2.out).out.mono ?_); rintro e wS3 ⟨u3, rfl, hd, hbx⟩; have HBS3 := Lib.hid (bel_trans HBQ2.out hbx); have HX3 := Lib.hid hd; clear hd hbx)
      | (go_at_call 36; (with_reducible refine (HD2 _ HBS3.out).out.mono ?_); rintro e wR3 ⟨t3, rfl, hd, hbx⟩; have HBR3 := Lib.hid (bel_trans HBS3.out hbx); have HY3 := Lib.hid hd; have HZ3 := Lib.hid (HX3.out.step hbx); clear hd hbx)
      | (go_at_call 34; (with_reducible refine (same_lists _ _ _ _ wR3 HZ3.out HY3.out).mono ?_); rintro e wQ3 ⟨b, rfl, hbb, hbx⟩; obtain rfl : b = true := hbb.2 rfl; have HBQ3 := Lib.hid (bel_trans HBR3.out hbx); clear hbb hbx))
    go_ret
    exact RetB.mk rfl (bel_trans HB2.out HBQ3.out)
theorem batchSplits_holds : Rows.BatchSplitsSaid :=
  OpenClaim.holds_of_wide 9 Try.f9 rfl rfl rfl rfl rfl rfl rfl ⟨rfl, rfl, rfl, rfl, rfl⟩ rfl rfl rfl rfl rfl (by kernel_rfl) Try.func9 (by kernel_rfl)
    (of_decide_eq_true (by kernel_rfl)) (by unfold Func.isWrapper; first | (rw [if_pos (by decide +kernel)]; kernel_rfl) | (rw [if_neg (by decide +kernel)]; exact ⟨rfl, rfl⟩))
    (fun os started H enc _ => batchSplits_lifted os started H enc)
end Go.Proofs.Ytjbkeipagdmlpaa
