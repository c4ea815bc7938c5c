/- The walk over the reference's ZoneOf. -/
import Derived.Test.YthohmngckpjlbaaZoW2
namespace Go.Proofs.Ythohmngckpjlbaa
open Go.RowKit Go.VB Go.VL Go.VS Go.ZN
set_option linter.constructorNameAsVariable false
set_option maxRecDepth 100000 in
set_option maxHeartbeats 4000000 in
theorem rzof_any (ty : Int) (v : Value) (l : List Vl) (W : World) (hr : RdL W W.heap.size v l) : Calls Try.prog 15 #[.int .i64 ty, v] W (RetB (zof ty l).val W) := by
  obtain ⟨A, c, n, rfl, hn, hc1, hc2⟩ := hr.bds
  have HR := Lib.hid hr; clear hr
  have HLN := Lib.hid hn
  have HN := fun w => Lib.hid (rznull_any w)
  have HL := fun x n s y m t w => Lib.hid (rpick_any ty (-1) x n s y m t w)
  have HG := fun x n s y m t w => Lib.hid (rpick_any ty 1 x n s y m t w)
  have HV0 := Lib.hid (VarZ.new W zn0 25)
  have HB0 := Lib.hid ((Below.refl W.heap.size W).alloc (Nat.le_refl _) (.cells #[.int .i64 0, .int .i64 0, .bool false, .int .i64 0, .string ⟨#[]⟩, .bool false, .int .i64 0, .string ⟨#[]⟩] 25))
  have HS0 := Lib.hid (show (W.alloc (.cells #[.int .i64 0, .int .i64 0, .bool false, .int .i64 0, .string ⟨#[]⟩, .bool false, .int .i64 0, .string ⟨#[]⟩] 25)).heap.size = W.heap.size + 1 by simp)
  have hn2 : n ≤ 9223372036854775807 := Nat.le_trans hc1 hc2
  clear hn hc1 hc2
  go_enter Try.func15, Try.ntmps15
  go_wp2_with fail
  (with_reducible refine (HN _).out.mono ?_); rintro e w1 ⟨rfl, hb1⟩
  go_wp2_with fail
  (with_reducible refine (HN _).out.mono ?_); rintro e w2 ⟨rfl, hb2⟩
  have hX := VarZ.new w2 ⟨(n : Int), 0, nulV, nulV⟩ 25
  have hb3 := (Below.refl w2.heap.size w2).alloc (Nat.le_refl _) (.cells #[.int .i64 (n : Int), .int .i64 0, .bool true, .int .i64 0, .string ⟨#[]⟩, .bool true, .int .i64 0, .string ⟨#[]⟩] 25)
  have hres := ((HV0.out.step hb1).step hb2).step hb3
  have hBX := bel_trans (bel_trans (bel_trans HB0.out hb1) hb2) hb3
  have hlt : W.heap.size < w2.heap.size := by have := hb1.size; have := hb2.size; rw [HS0.out] at *; omega
  have HX := Lib.hid hX; have HRES := Lib.hid hres; have HBX := Lib.hid hBX
  clear hb1 hb2 hb3 hX hres hBX
  go_wp2_with fail
  go_loopw [15] (fun iv wr => ∃ j : Nat, iv = .int .i64 j ∧ j ≤ n ∧ Below W.heap.size W wr ∧ VarZ wr w2.heap.size (zpar ty n l j) ∧ VarZ wr W.heap.size zn0) (fun iv _ => n - (intOf iv).toNat)
  case atStart => exact ⟨0, rfl, Nat.zero_le _, HBX.out, HX.out, HRES.out⟩
  case round =>
    obtain ⟨j, rfl, hj, hbel, hz, hres⟩ := hrel
    have HRES2 := Lib.hid hres; have HBEL := Lib.hid hbel
    by_cases hjn : j < n
    · have hlj : l[j]? = some (l[j]'(by rw [← HLN.out]; exact hjn)) := List.getElem?_eq_getElem _
      obtain ⟨ad, rfl, _, q0, q1, q2⟩ := (HR.out.below hbel).at hlj
      have HT := Lib.hid (stz_take (typ := ty) hlj)
      have hkb := stz_le ty (l.take j)
      rw [List.length_take] at hkb
      generalize l[j] = V at q0 q1 q2 HT
      unfold zpar at hz
      generalize stz ty (l.take j) = st at hz HT hkb
      obtain ⟨k, ⟨mb, mi, ms⟩, ⟨xb, xi, xs⟩⟩ := st
      obtain ⟨vb, vi, vs⟩ := V
      simp only at q0 q1 q2 hkb hz HT
      have hk : k + 1 ≤ n := by omega
      have HZ := Lib.hid hz
      have hwb : w2.heap.size < wr.heap.size := hz.lt
      obtain ⟨z0, z1, z2, z3, z4, z5, z6, z7, zf⟩ := hz
      have zf1 := zf 1 (by decide)
      simp only at z0 z1 z2 z3 z4 z5 z6 z7
      have hw : wrap64 ((k : Int) + 1) = ((k + 1 : Nat) : Int) := by unfold wrap64; omega
      clear hkb hlj hres hbel zf
      cases vb with
      | true =>
        have HZt := Lib.hid ((incW_z (k := k + 1) HZ.out).alloc (.cells #[.bool true, .int .i64 vi, .string vs] 23)); have HRt := Lib.hid ((incW_o (c := w2.heap.size) (k := k + 1) HRES2.out (by omega)).alloc (.cells #[.bool true, .int .i64 vi, .string vs] 23)); have HBt := Lib.hid ((incW_b (b := w2.heap.size) (k := k + 1) HBEL.out (by omega)).alloc (by rw [incW_s]; omega) (.cells #[.bool true, .int .i64 vi, .string vs] 23))
        go_wp2_with fail
        go_roundw
        case rel => exact ⟨j + 1, by go_num, hjn, HBt.out, by rw [zpar_is (k := k + 1) HT.out]; exact HZt.out, HRt.out⟩
        case measure => simp [intOf] <;> omega
      | false =>
        have H1 := fun w => Lib.hid (rpick_any ty (-1) mb mi ms false vi vs w)
        have H2 := fun w => Lib.hid (rpick_any ty 1 xb xi xs false vi vs w)
        have hT : stz ty (l.take (j + 1)) = (k, pck ty (-1) ⟨mb, mi, ms⟩ ⟨false, vi, vs⟩, pck ty 1 ⟨xb, xi, xs⟩ ⟨false, vi, vs⟩) := HT.out
        clear HT
        generalize pck ty (-1) ⟨mb, mi, ms⟩ ⟨false, vi, vs⟩ = P at *
        generalize pck ty 1 ⟨xb, xi, xs⟩ ⟨false, vi, vs⟩ = Q at *
        obtain ⟨pb, pi, ps⟩ := P
        obtain ⟨ob, oi, os⟩ := Q
        simp only [Vl.val] at H1 H2
        have HT := Lib.hid hT
        have HZA := HZ.out.alloc (.cells #[.bool false, .int .i64 vi, .string vs] 23)
        have HRA := HRES2.out.alloc (.cells #[.bool false, .int .i64 vi, .string vs] 23)
        have HVA := Var3.new wr (.bool false) (.int .i64 vi) (.string vs) 23
        have HBA := HBEL.out.alloc (by omega) (.cells #[.bool false, .int .i64 vi, .string vs] 23)
        have HF := Lib.hid (show ∀ w, Below (wr.alloc (.cells #[.bool false, .int .i64 vi, .string vs] 23)).heap.size (wr.alloc (.cells #[.bool false, .int .i64 vi, .string vs] 23)) w → VarZ w w2.heap.size ⟨n, k, ⟨mb, mi, ms⟩, ⟨xb, xi, xs⟩⟩ ∧ VarZ w W.heap.size zn0 ∧ Var3 w wr.heap.size (.bool false) (.int .i64 vi) (.string vs) ∧ Below W.heap.size W w from
          fun w hb => ⟨HZA.step hb, HRA.step hb, HVA.step hb, bel_trans HBA hb⟩)
        clear hT HZA HRA HVA HBA HZ HL HG
        have HC := Lib.hid (show ∀ w, Below (wr.alloc (.cells #[.bool false, .int .i64 vi, .string vs] 23)).heap.size (wr.alloc (.cells #[.bool false, .int .i64 vi, .string vs] 23)) w → w.cell? ⟨w2.heap.size, 2, none⟩ = some (.bool mb) ∧ w.cell? ⟨w2.heap.size, 3, none⟩ = some (.int .i64 mi) ∧ w.cell? ⟨w2.heap.size, 4, none⟩ = some (.string ms) ∧ w.cell? ⟨w2.heap.size, 5, none⟩ = some (.bool xb) ∧ w.cell? ⟨w2.heap.size, 6, none⟩ = some (.int .i64 xi) ∧ w.cell? ⟨w2.heap.size, 7, none⟩ = some (.string xs) ∧ w.cell? ⟨wr.heap.size, 0, none⟩ = some (.bool false) ∧ w.cell? ⟨wr.heap.size, 1, none⟩ = some (.int .i64 vi) ∧ w.cell? ⟨wr.heap.size, 2, none⟩ = some (.string vs) ∧
          w.frozen? ⟨w2.heap.size, 2, none⟩ = false ∧ w.frozen? ⟨w2.heap.size, 3, none⟩ = false ∧ w.frozen? ⟨w2.heap.size, 4, none⟩ = false ∧ w.frozen? ⟨w2.heap.size, 5, none⟩ = false ∧ w.frozen? ⟨w2.heap.size, 6, none⟩ = false ∧ w.frozen? ⟨w2.heap.size, 7, none⟩ = false from
          fun w hb => by
            obtain ⟨hz, _, hv, _⟩ := HF.out w hb
            obtain ⟨_, _, g2, g3, g4, g5, g6, g7⟩ := hz.frz
            exact ⟨hz.c2, hz.c3, hz.c4, hz.c5, hz.c6, hz.c7, hv.c0, hv.c1, hv.c2, g2, g3, g4, g5, g6, g7⟩)
        have HREL := Lib.hid (show ∀ w, Below (wr.alloc (.cells #[.bool false, .int .i64 vi, .string vs] 23)).heap.size (wr.alloc (.cells #[.bool false, .int .i64 vi, .string vs] 23)) w → Below W.heap.size W ((((((w.setCell ⟨w2.heap.size, 2, none⟩ (.bool pb)).setCell ⟨w2.heap.size, 3, none⟩ (.int .i64 pi)).setCell ⟨w2.heap.size, 4, none⟩ (.string ps)).setCell ⟨w2.heap.size, 5, none⟩ (.bool ob)).setCell ⟨w2.heap.size, 6, none⟩ (.int .i64 oi)).setCell ⟨w2.heap.size, 7, none⟩ (.string os)) ∧ VarZ ((((((w.setCell ⟨w2.heap.size, 2, none⟩ (.bool pb)).setCell ⟨w2.heap.size, 3, none⟩ (.int .i64 pi)).setCell ⟨w2.heap.size, 4, none⟩ (.string ps)).setCell ⟨w2.heap.size, 5, none⟩ (.bool ob)).setCell ⟨w2.heap.size, 6, none⟩ (.int .i64 oi)).setCell ⟨w2.heap.size, 7, none⟩ (.string os)) w2.heap.size (zpar ty n l (j + 1)) ∧ VarZ ((((((w.setCell ⟨w2.heap.size, 2, none⟩ (.bool pb)).setCell ⟨w2.heap.size, 3, none⟩ (.int .i64 pi)).setCell ⟨w2.heap.size, 4, none⟩ (.string ps)).setCell ⟨w2.heap.size, 5, none⟩ (.bool ob)).setCell ⟨w2.heap.size, 6, none⟩ (.int .i64 oi)).setCell ⟨w2.heap.size, 7, none⟩ (.string os)) W.heap.size zn0 from fun w hb => by
          obtain ⟨hz, hr, _, hB⟩ := HF.out w hb
          have hne : W.heap.size ≠ w2.heap.size := by omega
          refine ⟨set3V_below (k := 5) (set3V_below (k := 2) hB (by omega)) (by omega), ?_, ?_⟩
          · rw [zpar_is (k := k) HT.out]
            exact (hz.setMn ⟨pb, pi, ps⟩).setMx ⟨ob, oi, os⟩
          · exact (((((hr.other hne 2 _).other hne 3 _).other hne 4 _).other hne 5 _).other hne 6 _).other hne 7 _)
        clear hk hw z0 z1 zf1
        go_wp2_with fail
        clear q0 q1 q2 HR HN HV0 HB0 HS0 HX HRES HBX HRES2 HBEL HLN HF HT
        go_region_with (first
          | (go_at_call 33; (with_reducible refine (H1 _).out.mono ?_); rintro e w3 ⟨rfl, hb3⟩; have hA3 : Below (wr.alloc (.cells #[.bool false, .int .i64 vi, .string vs] 23)).heap.size (wr.alloc (.cells #[.bool false, .int .i64 vi, .string vs] 23)) w3 := bel_trans (by first | exact Below.refl _ _ | exact (Below.refl _ _).drew | exact hA5 | exact hA5.drew) hb3; clear hb3; obtain ⟨z2, z3, z4, z5, z6, z7, a0, a1, a2, g2, g3, g4, g5, g6, g7⟩ := HC.out _ hA3)
          | (go_at_call 33; (with_reducible refine (H2 _).out.mono ?_); rintro e w5 ⟨rfl, hb5⟩; have hA5 : Below (wr.alloc (.cells #[.bool false, .int .i64 vi, .string vs] 23)).heap.size (wr.alloc (.cells #[.bool false, .int .i64 vi, .string vs] 23)) w5 := bel_trans (by first | exact Below.refl _ _ | exact (Below.refl _ _).drew | exact hA3 | exact hA3.drew) hb5; clear hb5; obtain ⟨z2, z3, z4, z5, z6, z7, a0, a1, a2, g2, g3, g4, g5, g6, g7⟩ := HC.out _ hA5))
        all_goals
          go_wp2_with fail
          go_roundw
          case rel => first | exact ⟨j + 1, by go_num, hjn, HREL.out _ hA5⟩ | exact ⟨j + 1, by go_num, hjn, HREL.out _ hA3⟩
          case measure => simp [intOf] <;> omega
    · have ej : j = n := by omega
      rw [ej, zpar_all HLN.out] at hz
      clear ej hj
      generalize hZ : zof ty l = Z at hz
      obtain ⟨zr, zu, ⟨mb, mi, ms⟩, ⟨xb, xi, xs⟩⟩ := Z
      have HZZ := Lib.hid hZ
      clear hZ
      have hP := hres.put ⟨zr, zu, ⟨mb, mi, ms⟩, ⟨xb, xi, xs⟩⟩
      have HPB := Lib.hid (put8_below (z := ⟨zr, zu, ⟨mb, mi, ms⟩, ⟨xb, xi, xs⟩⟩) hbel (Nat.le_refl _))
      unfold put8 at hP HPB
      have HP := Lib.hid hP
      obtain ⟨f0, f1, f2, f3, f4, f5, f6, f7⟩ := hres.frz
      obtain ⟨r0, r1, r2, r3, r4, r5, r6, r7, _⟩ := hres
      obtain ⟨z0, z1, z2, z3, z4, z5, z6, z7, _⟩ := hz
      simp only at z0 z1 z2 z3 z4 z5 z6 z7
      clear hP hbel
      go_wp2
      obtain ⟨m0, m1, m2, m3, m4, m5, m6, m7, _⟩ := HP.out
      simp only at m0 m1 m2 m3 m4 m5 m6 m7
      refine bodyPost_ret (v := (.agg #[.int .i64 zr, .int .i64 zu, .bool mb, .int .i64 mi, .string ms, .bool xb, .int .i64 xi, .string xs])) (by simp [results, Try.results15, go_sem, m0, m1, m2, m3, m4, m5, m6, m7]) rfl ?_
      exact RetB.mk (by rw [HZZ.out]; rfl) HPB.out
end Go.Proofs.Ythohmngckpjlbaa
