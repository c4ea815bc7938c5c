/- The walks over the reference's pick, package zone's Of and the reference's ZoneOf. -/
import Derived.Test.YthohmngckpjlbaaZoW1
namespace Go.ZN
open Go.RowKit Go.VB Go.VS Go.VL
def zn0 : Zn := ⟨0, 0, vl0, vl0⟩
/-- The number of nulls of the zone in block b is written. -/
def incW (w : World) (b k : Nat) : World := w.setCell ⟨b, 1, none⟩ (.int .i64 (k : Int))
theorem incW_z {w : World} {b k : Nat} {z : Zn} (h : VarZ w b z) : VarZ (incW w b k) b ⟨z.rows, k, z.mn, z.mx⟩ := h.set1 _
theorem incW_o {w : World} {b c k : Nat} {z : Zn} (h : VarZ w b z) (hc : b ≠ c) : VarZ (incW w c k) b z := h.other hc 1 _
theorem incW_b {B b k : Nat} {w0 w : World} (h : Below B w0 w) (hB : B ≤ b) : Below B w0 (incW w b k) := h.setCell (p := ⟨b, 1, none⟩) hB _
theorem incW_s (w : World) (b k : Nat) : (incW w b k).heap.size = w.heap.size := World.size_setCell _ _ _
theorem zval (a b : Int) (x : Bool) (n : Int) (s : ByteArray) (y : Bool) (m : Int) (t : ByteArray) : (⟨a, b, ⟨x, n, s⟩, ⟨y, m, t⟩⟩ : Zn).val = (.agg #[.int .i64 a, .int .i64 b, .bool x, .int .i64 n, .string s, .bool y, .int .i64 m, .string t]) := rfl
/-- The zone of the first j of n values. -/
def zpar (ty : Int) (n : Nat) (l : List Vl) (j : Nat) : Zn := ⟨n, (stz ty (l.take j)).1, (stz ty (l.take j)).2.1, (stz ty (l.take j)).2.2⟩
theorem zpar_all {ty : Int} {n : Nat} {l : List Vl} (h : n = l.length) : zpar ty n l n = zof ty l := by subst h; unfold zpar zof; rw [List.take_length]
theorem zpar_is {ty : Int} {n : Nat} {l : List Vl} {j k : Nat} {a b : Vl} (h : stz ty (l.take j) = (k, a, b)) : zpar ty n l j = ⟨n, k, a, b⟩ := by unfold zpar; rw [h]
end Go.ZN
namespace Go.Proofs.Ythohmngckpjlbaa
open Go.RowKit Go.VB Go.VL Go.VS Go.ZN
set_option linter.constructorNameAsVariable false
set_option maxRecDepth 100000 in
set_option maxHeartbeats 1000000 in
theorem rpick_any (ty sg : Int) (x : Bool) (n : Int) (s : ByteArray) (y : Bool) (m : Int) (t : ByteArray) (w : World) :
    Calls Try.prog 33 #[.int .i64 ty, .int .i64 sg, (.agg #[.bool x, .int .i64 n, .string s]), (.agg #[.bool y, .int .i64 m, .string t])] w (RetB (pck ty sg ⟨x, n, s⟩ ⟨y, m, t⟩).val w) := by
  have HN := fun w => Lib.hid (rznull_any w)
  have HC := fun w => Lib.hid (rcmp_any ty false m t false n s w)
  cases x with
  | true =>
    cases y with
    | true =>
      rw [pck_nn rfl rfl]
      simp only [Vl.val, nulV]
      go_enter Try.func33, Try.ntmps33
      go_wp2_with fail
      (with_reducible refine (HN _).out.mono ?_); rintro e w1 ⟨rfl, hb⟩
      have hW := var3_at (n := w.heap.size + 1 + 1) (by simp) hb
      have hB := bel_trans (show Below w.heap.size w _ from by go_grown) hb
      obtain ⟨k0, k1, k2, g0, g1, g2⟩ := id hW
      go_wp2
      obtain ⟨m0, m1, m2, _, _, _⟩ := hW.set (.bool true) (.int .i64 0) (.string ⟨#[]⟩)
      refine bodyPost_ret (v := (.agg #[.bool true, .int .i64 0, .string ⟨#[]⟩])) (by simp [results, Try.results33, go_sem, m0, m1, m2]) rfl ?_
      exact RetB.mk rfl (set3_below hB (by omega) _ _ _)
    | false =>
      rw [pck_n rfl rfl]
      simp only [Vl.val]
      go_enter Try.func33, Try.ntmps33
      go_wp2
      refine bodyPost_ret (v := (.agg #[.bool false, .int .i64 m, .string t])) (by simp [results, Try.results33, go_sem]) rfl ?_
      exact RetB.mk rfl (by go_grown)
  | false =>
    cases y with
    | true =>
      rw [pck_vn rfl rfl]
      simp only [Vl.val]
      go_enter Try.func33, Try.ntmps33
      go_wp2
      refine bodyPost_ret (v := (.agg #[.bool false, .int .i64 n, .string s])) (by simp [results, Try.results33, go_sem]) rfl ?_
      exact RetB.mk rfl (by go_grown)
    | false =>
      have hp : pck ty sg ⟨false, n, s⟩ ⟨false, m, t⟩ = if cmp ty false m t false n s = sg then ⟨false, m, t⟩ else ⟨false, n, s⟩ := rfl
      rw [hp]; clear hp
      generalize cmp ty false m t false n s = c at *
      by_cases hc : c = sg
      · rw [if_pos hc]
        have hd := ieq_t hc
        clear hc
        simp only [Vl.val]
        go_enter Try.func33, Try.ntmps33
        go_wp2_with fail
        (with_reducible refine (HC _).out.mono ?_); rintro e w1 ⟨rfl, hb⟩
        have hW := var3_at (n := w.heap.size + 1 + 1) (by simp) hb
        have hX := (Var3.new (w.alloc (.cells #[.bool false, .int .i64 n, .string s] 23)) (.bool false) (.int .i64 m) (.string t) 23).step ((Below.refl _ _).alloc (Nat.le_refl _) (.cells #[.bool false, .int .i64 0, .string ⟨#[]⟩] 23)) |>.step hb
        rw [show (w.alloc (.cells #[.bool false, .int .i64 n, .string s] 23)).heap.size = w.heap.size + 1 from by simp] at hX
        have hB := bel_trans (show Below w.heap.size w _ from by go_grown) hb
        obtain ⟨k0, k1, k2, g0, g1, g2⟩ := id hW
        obtain ⟨j0, j1, j2, _, _, _⟩ := hX
        go_wp2
        obtain ⟨m0, m1, m2, _, _, _⟩ := hW.set (.bool false) (.int .i64 m) (.string t)
        refine bodyPost_ret (v := (.agg #[.bool false, .int .i64 m, .string t])) (by simp [results, Try.results33, go_sem, m0, m1, m2]) rfl ?_
        exact RetB.mk rfl (set3_below hB (by omega) _ _ _)
      · rw [if_neg hc]
        have hd := ieq_f hc
        clear hc
        simp only [Vl.val]
        go_enter Try.func33, Try.ntmps33
        go_wp2_with fail
        (with_reducible refine (HC _).out.mono ?_); rintro e w1 ⟨rfl, hb⟩
        have hW := var3_at (n := w.heap.size + 1 + 1) (by simp) hb
        have hX := (Var3.new w (.bool false) (.int .i64 n) (.string s) 23).step ((Below.refl _ _).alloc (Nat.le_refl _) (.cells #[.bool false, .int .i64 m, .string t] 23)) |>.step ((Below.refl _ _).alloc (Nat.le_refl _) (.cells #[.bool false, .int .i64 0, .string ⟨#[]⟩] 23)) |>.step hb
        have hB := bel_trans (show Below w.heap.size w _ from by go_grown) hb
        obtain ⟨k0, k1, k2, g0, g1, g2⟩ := id hW
        obtain ⟨j0, j1, j2, _, _, _⟩ := hX
        go_wp2
        obtain ⟨m0, m1, m2, _, _, _⟩ := hW.set (.bool false) (.int .i64 n) (.string s)
        refine bodyPost_ret (v := (.agg #[.bool false, .int .i64 n, .string s])) (by simp [results, Try.results33, go_sem, m0, m1, m2]) rfl ?_
        exact RetB.mk rfl (set3_below hB (by omega) _ _ _)
set_option maxRecDepth 100000 in
set_option maxHeartbeats 1000000 in
theorem zof_any (ty : Int) (v : Value) (l : List Vl) (W : World) (hr : RdL W W.heap.size v l) : Calls Try.prog 10 #[.int .i64 ty, v] W (RetB (zof ty l).val W) := by
  obtain ⟨A, c, n, rfl, hn, hc1, hc2⟩ := hr.bds
  have HR := Lib.hid hr; clear hr
  have HLN := Lib.hid hn
  have HN := fun w => Lib.hid (znull_any w)
  have HL := fun x n s y m t w => Lib.hid (lesser_any ty x n s y m t w)
  have HG := fun x n s y m t w => Lib.hid (greater_any ty x n s y m t w)
  have HV0 := Lib.hid (VarZ.new W zn0 25)
  have HB0 := Lib.hid ((Below.refl W.heap.size W).alloc (Nat.le_refl _) (.cells #[.int .i64 0, .int .i64 0, .bool false, .int .i64 0, .string ⟨#[]⟩, .bool false, .int .i64 0, .string ⟨#[]⟩] 25))
  have HS0 := Lib.hid (show (W.alloc (.cells #[.int .i64 0, .int .i64 0, .bool false, .int .i64 0, .string ⟨#[]⟩, .bool false, .int .i64 0, .string ⟨#[]⟩] 25)).heap.size = W.heap.size + 1 by simp)
  have hn2 : n ≤ 9223372036854775807 := Nat.le_trans hc1 hc2
  clear hn hc1 hc2
  go_enter Try.func10, Try.ntmps10
  go_wp2_with fail
  (with_reducible refine (HN _).out.mono ?_); rintro e w1 ⟨rfl, hb1⟩
  go_wp2_with fail
  (with_reducible refine (HN _).out.mono ?_); rintro e w2 ⟨rfl, hb2⟩
  have hX := VarZ.new w2 ⟨(n : Int), 0, nulV, nulV⟩ 25
  have hb3 := (Below.refl w2.heap.size w2).alloc (Nat.le_refl _) (.cells #[.int .i64 (n : Int), .int .i64 0, .bool true, .int .i64 0, .string ⟨#[]⟩, .bool true, .int .i64 0, .string ⟨#[]⟩] 25)
  have hres := ((HV0.out.step hb1).step hb2).step hb3
  have hBX := bel_trans (bel_trans (bel_trans HB0.out hb1) hb2) hb3
  have hlt : W.heap.size < w2.heap.size := by have := hb1.size; have := hb2.size; rw [HS0.out] at *; omega
  have HX := Lib.hid hX; have HRES := Lib.hid hres; have HBX := Lib.hid hBX
  clear hb1 hb2 hb3 hX hres hBX
  go_wp2_with fail
  go_loopw [15] (fun iv wr => ∃ j : Nat, iv = .int .i64 j ∧ j ≤ n ∧ Below W.heap.size W wr ∧ VarZ wr w2.heap.size (zpar ty n l j) ∧ VarZ wr W.heap.size zn0) (fun iv _ => n - (intOf iv).toNat)
  case atStart => exact ⟨0, rfl, Nat.zero_le _, HBX.out, HX.out, HRES.out⟩
  case round =>
    obtain ⟨j, rfl, hj, hbel, hz, hres⟩ := hrel
    have HRES2 := Lib.hid hres; have HBEL := Lib.hid hbel
    by_cases hjn : j < n
    · have hlj : l[j]? = some (l[j]'(by rw [← HLN.out]; exact hjn)) := List.getElem?_eq_getElem _
      obtain ⟨ad, rfl, _, q0, q1, q2⟩ := (HR.out.below hbel).at hlj
      have HT := Lib.hid ((stz_take (typ := ty) hlj).trans (stp_all (stz_nrm ty _).1 (stz_nrm ty _).2))
      have hkb := stz_le ty (l.take j)
      rw [List.length_take] at hkb
      generalize l[j] = V at q0 q1 q2 HT
      unfold zpar at hz
      generalize stz ty (l.take j) = st at hz HT hkb
      obtain ⟨k, ⟨mb, mi, ms⟩, ⟨xb, xi, xs⟩⟩ := st
      obtain ⟨vb, vi, vs⟩ := V
      simp only at q0 q1 q2 hkb hz HT
      have hk : k + 1 ≤ n := by omega
      have HZ := Lib.hid hz
      have hwb : w2.heap.size < wr.heap.size := hz.lt
      obtain ⟨z0, z1, z2, z3, z4, z5, z6, z7, zf⟩ := hz
      have zf1 := zf 1 (by decide)
      simp only at z0 z1 z2 z3 z4 z5 z6 z7
      have hw : wrap64 ((k : Int) + 1) = ((k + 1 : Nat) : Int) := by unfold wrap64; omega
      clear hkb hlj hres hbel zf
      have HZt := Lib.hid (incW_z (k := k + 1) HZ.out); have HRt := Lib.hid (incW_o (c := w2.heap.size) (k := k + 1) HRES2.out (by omega)); have HBt := Lib.hid (incW_b (b := w2.heap.size) (k := k + 1) HBEL.out (by omega))
      cases vb
      · have hzA := VarZ.alloc HZ.out (.cells #[.bool false, .int .i64 vi, .string vs] 23)
        have hrA := VarZ.alloc HRES2.out (.cells #[.bool false, .int .i64 vi, .string vs] 23)
        have hvA := Var3.new wr (.bool false) (.int .i64 vi) (.string vs) 23
        have hbA := bel_trans HBEL.out ((Below.refl _ _).alloc (Nat.le_refl _) (.cells #[.bool false, .int .i64 vi, .string vs] 23))
        (try rw [incW_s] at hvA)
        have HZA := Lib.hid hzA; have HRA := Lib.hid hrA; have HVA := Lib.hid hvA; have HBA := Lib.hid hbA
        clear hzA hrA hvA hbA
        go_wp2_with fail
        (with_reducible refine (HL _ _ _ _ _ _ _).out.mono ?_); rintro e w3 ⟨rfl, hb3⟩
        have hz3 := HZA.out.step hb3; have hr3 := HRA.out.step hb3; have hv3 := HVA.out.step hb3; have hB3 := bel_trans HBA.out hb3
        clear hb3 z0 z1 z2 z3 z4 z5 z6 z7 zf1 q0 q1 q2
        generalize pck ty (-1) ⟨mb, mi, ms⟩ ⟨false, vi, vs⟩ = P at HT ⊢
        obtain ⟨pb, pi, ps⟩ := P
        simp only [Vl.val]
        have HZ4 := Lib.hid (hz3.setMn ⟨pb, pi, ps⟩)
        have HR4 := Lib.hid (((hr3.other (show W.heap.size ≠ w2.heap.size by omega) 2 (.bool pb)).other (show W.heap.size ≠ w2.heap.size by omega) 3 (.int .i64 pi)).other (show W.heap.size ≠ w2.heap.size by omega) 4 (.string ps))
        have HV4 := Lib.hid (var3_oth (var3_oth (var3_oth hv3 (show wr.heap.size ≠ w2.heap.size by omega) 2 (.bool pb)) (show wr.heap.size ≠ w2.heap.size by omega) 3 (.int .i64 pi)) (show wr.heap.size ≠ w2.heap.size by omega) 4 (.string ps))
        have HB4 := Lib.hid (set3V_below (k := 2) (x := .bool pb) (y := .int .i64 pi) (u := .string ps) hB3 (show W.heap.size ≤ w2.heap.size by omega))
        obtain ⟨_, _, g2, g3, g4, _, _, _⟩ := hz3.frz
        obtain ⟨z0, z1, z2, z3, z4, z5, z6, z7, _⟩ := hz3
        obtain ⟨y0, y1, y2, y3, y4, y5, y6, y7, _⟩ := HZ4.out
        obtain ⟨a0, a1, a2, _, _, _⟩ := hv3
        obtain ⟨c0, c1, c2, _, _, _⟩ := HV4.out
        simp only at z0 z1 z2 z3 z4 z5 z6 z7 y0 y1 y2 y3 y4 y5 y6 y7
        clear hr3 hB3
        go_wp2_with fail
        (with_reducible refine (HG _ _ _ _ _ _ _).out.mono ?_); rintro e w5 ⟨rfl, hb5⟩
        have hz5 := HZ4.out.step hb5; have hr5 := HR4.out.step hb5; have hB5 := bel_trans HB4.out hb5
        clear hb5 z0 z1 z2 z3 z4 z5 z6 z7 y0 y1 y2 y3 y4 y5 y6 y7 a0 a1 a2 c0 c1 c2 g2 g3 g4 HZ4 HR4 HV4 HB4
        generalize pck ty 1 ⟨xb, xi, xs⟩ ⟨false, vi, vs⟩ = Q at HT ⊢
        obtain ⟨ob, oi, os⟩ := Q
        simp only [Vl.val]
        have HZ6 := Lib.hid (hz5.setMx ⟨ob, oi, os⟩)
        have HR6 := Lib.hid (((hr5.other (show W.heap.size ≠ w2.heap.size by omega) 5 (.bool ob)).other (show W.heap.size ≠ w2.heap.size by omega) 6 (.int .i64 oi)).other (show W.heap.size ≠ w2.heap.size by omega) 7 (.string os))
        have HB6 := Lib.hid (set3V_below (k := 5) (x := .bool ob) (y := .int .i64 oi) (u := .string os) hB5 (show W.heap.size ≤ w2.heap.size by omega))
        obtain ⟨_, _, _, _, _, g5, g6, g7⟩ := hz5.frz
        obtain ⟨z0, z1, z2, z3, z4, z5, z6, z7, _⟩ := hz5
        simp only at z0 z1 z2 z3 z4 z5 z6 z7
        clear hr5 hB5
        go_wp2_with fail
        go_roundw
        case rel => exact ⟨j + 1, by go_num, hjn, HB6.out, by rw [zpar_is (k := k) HT.out]; exact HZ6.out, HR6.out⟩
        case measure => simp [intOf] <;> omega
      · have hzA := VarZ.alloc HZt.out (.cells #[.bool true, .int .i64 vi, .string vs] 23)
        have hrA := VarZ.alloc HRt.out (.cells #[.bool true, .int .i64 vi, .string vs] 23)
        have hvA := Var3.new (incW wr w2.heap.size (k+1)) (.bool true) (.int .i64 vi) (.string vs) 23
        have hbA := bel_trans HBt.out ((Below.refl _ _).alloc (Nat.le_refl _) (.cells #[.bool true, .int .i64 vi, .string vs] 23))
        (try rw [incW_s] at hvA)
        have HZA := Lib.hid hzA; have HRA := Lib.hid hrA; have HVA := Lib.hid hvA; have HBA := Lib.hid hbA
        clear hzA hrA hvA hbA
        go_wp2_with fail
        (with_reducible refine (HL _ _ _ _ _ _ _).out.mono ?_); rintro e w3 ⟨rfl, hb3⟩
        have hz3 := HZA.out.step hb3; have hr3 := HRA.out.step hb3; have hv3 := HVA.out.step hb3; have hB3 := bel_trans HBA.out hb3
        clear hb3 z0 z1 z2 z3 z4 z5 z6 z7 zf1 q0 q1 q2
        generalize pck ty (-1) ⟨mb, mi, ms⟩ ⟨true, vi, vs⟩ = P at HT ⊢
        obtain ⟨pb, pi, ps⟩ := P
        simp only [Vl.val]
        have HZ4 := Lib.hid (hz3.setMn ⟨pb, pi, ps⟩)
        have HR4 := Lib.hid (((hr3.other (show W.heap.size ≠ w2.heap.size by omega) 2 (.bool pb)).other (show W.heap.size ≠ w2.heap.size by omega) 3 (.int .i64 pi)).other (show W.heap.size ≠ w2.heap.size by omega) 4 (.string ps))
        have HV4 := Lib.hid (var3_oth (var3_oth (var3_oth hv3 (show wr.heap.size ≠ w2.heap.size by omega) 2 (.bool pb)) (show wr.heap.size ≠ w2.heap.size by omega) 3 (.int .i64 pi)) (show wr.heap.size ≠ w2.heap.size by omega) 4 (.string ps))
        have HB4 := Lib.hid (set3V_below (k := 2) (x := .bool pb) (y := .int .i64 pi) (u := .string ps) hB3 (show W.heap.size ≤ w2.heap.size by omega))
        obtain ⟨_, _, g2, g3, g4, _, _, _⟩ := hz3.frz
        obtain ⟨z0, z1, z2, z3, z4, z5, z6, z7, _⟩ := hz3
        obtain ⟨y0, y1, y2, y3, y4, y5, y6, y7, _⟩ := HZ4.out
        obtain ⟨a0, a1, a2, _, _, _⟩ := hv3
        obtain ⟨c0, c1, c2, _, _, _⟩ := HV4.out
        simp only at z0 z1 z2 z3 z4 z5 z6 z7 y0 y1 y2 y3 y4 y5 y6 y7
        clear hr3 hB3
        go_wp2_with fail
        (with_reducible refine (HG _ _ _ _ _ _ _).out.mono ?_); rintro e w5 ⟨rfl, hb5⟩
        have hz5 := HZ4.out.step hb5; have hr5 := HR4.out.step hb5; have hB5 := bel_trans HB4.out hb5
        clear hb5 z0 z1 z2 z3 z4 z5 z6 z7 y0 y1 y2 y3 y4 y5 y6 y7 a0 a1 a2 c0 c1 c2 g2 g3 g4 HZ4 HR4 HV4 HB4
        generalize pck ty 1 ⟨xb, xi, xs⟩ ⟨true, vi, vs⟩ = Q at HT ⊢
        obtain ⟨ob, oi, os⟩ := Q
        simp only [Vl.val]
        have HZ6 := Lib.hid (hz5.setMx ⟨ob, oi, os⟩)
        have HR6 := Lib.hid (((hr5.other (show W.heap.size ≠ w2.heap.size by omega) 5 (.bool ob)).other (show W.heap.size ≠ w2.heap.size by omega) 6 (.int .i64 oi)).other (show W.heap.size ≠ w2.heap.size by omega) 7 (.string os))
        have HB6 := Lib.hid (set3V_below (k := 5) (x := .bool ob) (y := .int .i64 oi) (u := .string os) hB5 (show W.heap.size ≤ w2.heap.size by omega))
        obtain ⟨_, _, _, _, _, g5, g6, g7⟩ := hz5.frz
        obtain ⟨z0, z1, z2, z3, z4, z5, z6, z7, _⟩ := hz5
        simp only at z0 z1 z2 z3 z4 z5 z6 z7
        clear hr5 hB5
        go_wp2_with fail
        go_roundw
        case rel => exact ⟨j + 1, by go_num, hjn, HB6.out, by rw [zpar_is (k := (k+1)) HT.out]; exact HZ6.out, HR6.out⟩
        case measure => simp [intOf] <;> omega
    · have ej : j = n := by omega
      rw [ej, zpar_all HLN.out] at hz
      clear ej hj
      generalize hZ : zof ty l = Z at hz
      obtain ⟨zr, zu, ⟨mb, mi, ms⟩, ⟨xb, xi, xs⟩⟩ := Z
      have HZZ := Lib.hid hZ
      clear hZ
      have hP := hres.put ⟨zr, zu, ⟨mb, mi, ms⟩, ⟨xb, xi, xs⟩⟩
      have HPB := Lib.hid (put8_below (z := ⟨zr, zu, ⟨mb, mi, ms⟩, ⟨xb, xi, xs⟩⟩) hbel (Nat.le_refl _))
      unfold put8 at hP HPB
      have HP := Lib.hid hP
      obtain ⟨f0, f1, f2, f3, f4, f5, f6, f7⟩ := hres.frz
      obtain ⟨r0, r1, r2, r3, r4, r5, r6, r7, _⟩ := hres
      obtain ⟨z0, z1, z2, z3, z4, z5, z6, z7, _⟩ := hz
      simp only at z0 z1 z2 z3 z4 z5 z6 z7
      clear hP hbel
      go_wp2
      obtain ⟨m0, m1, m2, m3, m4, m5, m6, m7, _⟩ := HP.out
      simp only at m0 m1 m2 m3 m4 m5 m6 m7
      refine bodyPost_ret (v := (.agg #[.int .i64 zr, .int .i64 zu, .bool mb, .int .i64 mi, .string ms, .bool xb, .int .i64 xi, .string xs])) (by simp [results, Try.results10, go_sem, m0, m1, m2, m3, m4, m5, m6, m7]) rfl ?_
      exact RetB.mk (by rw [HZZ.out]; rfl) HPB.out
end Go.Proofs.Ythohmngckpjlbaa
