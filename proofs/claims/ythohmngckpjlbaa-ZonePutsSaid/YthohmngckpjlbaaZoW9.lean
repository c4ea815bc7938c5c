/- The walk over the reference's GetZone. -/
import Derived.Test.YthohmngckpjlbaaZoW8
import Derived.Test.YthohmngckpjlbaaValW9
namespace Go.ZN
open Go.RowKit Go.VB Go.VS Go.VL Go.VarM
section
variable {s : ByteArray} {i b : Int} {a c : Nat}
theorem getC_bad (h : getR s i = (a, b, c)) (hc : c ≠ 0) : getC s i = (0, 0, c) := by unfold getC; rw [h, if_pos hc]
theorem getC_big (h : getR s i = (a, b, 0)) (ha : 4096 < a) : getC s i = (0, 0, 2) := by unfold getC; rw [h, if_neg (fun h => h rfl), if_pos ha]
theorem getC_good (h : getR s i = (a, b, 0)) (ha : ¬ 4096 < a) : getC s i = (a, b, 0) := by unfold getC; rw [h, if_neg (fun h => h rfl), if_neg ha]
end
end Go.ZN
namespace Go.Proofs.Ythohmngckpjlbaa
open Go.RowKit Go.VB Go.VL Go.VS Go.ZN Go.VarM
set_option linter.constructorNameAsVariable false
set_option maxRecDepth 100000 in
set_option maxHeartbeats 4000000 in
theorem rzget_any (s : ByteArray) (i : Int) (W : World) (hs : s.size ≤ 4611686018427387904) : Calls Try.prog 23 #[.string s, .int .i64 i] W (RetB (gZv (getZ s i)) W) := by
  have hsM : s.size ≤ maxLen := by unfold maxLen; omega
  have HS := Lib.hid hs
  have HRG := Lib.hid (fun (i : Int) (a : Nat) (b : Int) (c : Nat) (h : getR s i = (a, b, c)) (w : World) => rget_is s i w hsM h)
  have HV0 := Lib.hid (show VarZ ((W.alloc (.cells #[.int .i64 0, .int .i64 0, .bool false, .int .i64 0, .string ⟨#[]⟩, .bool false, .int .i64 0, .string ⟨#[]⟩] 25)).alloc (.cells #[.int .i64 0, .int .i64 0, .bool false, .int .i64 0, .string ⟨#[]⟩, .bool false, .int .i64 0, .string ⟨#[]⟩] 25)) W.heap.size zn0 from (VarZ.new W zn0 25).alloc _)
  have HZ0 := Lib.hid (show VarZ ((W.alloc (.cells #[.int .i64 0, .int .i64 0, .bool false, .int .i64 0, .string ⟨#[]⟩, .bool false, .int .i64 0, .string ⟨#[]⟩] 25)).alloc (.cells #[.int .i64 0, .int .i64 0, .bool false, .int .i64 0, .string ⟨#[]⟩, .bool false, .int .i64 0, .string ⟨#[]⟩] 25)) (W.heap.size + 1) zn0 from by
    have h := VarZ.new (W.alloc (.cells #[.int .i64 0, .int .i64 0, .bool false, .int .i64 0, .string ⟨#[]⟩, .bool false, .int .i64 0, .string ⟨#[]⟩] 25)) zn0 25
    simp only [World.size_alloc] at h; exact h)
  have HB0 := Lib.hid (show Below W.heap.size W ((W.alloc (.cells #[.int .i64 0, .int .i64 0, .bool false, .int .i64 0, .string ⟨#[]⟩, .bool false, .int .i64 0, .string ⟨#[]⟩] 25)).alloc (.cells #[.int .i64 0, .int .i64 0, .bool false, .int .i64 0, .string ⟨#[]⟩, .bool false, .int .i64 0, .string ⟨#[]⟩] 25)) from by go_grown)
  clear hs hsM
  go_enter Try.func23, Try.ntmps23
  go_wp2_with fail
  go_loopw [1, 5, 6, 8] (fun av r1 r2 kv wr => r1 = .int .i64 0 ∧ r2 = .int .i64 0 ∧ Below W.heap.size W wr ∧ VarZ wr W.heap.size zn0 ∧ ((kv = .int .i64 0 ∧ av = .int .i64 i ∧ VarZ wr (W.heap.size + 1) zn0) ∨ (∃ (x1 : Nat) (y1 : Int), getC s i = (x1, y1, 0) ∧ kv = .int .i64 1 ∧ av = .int .i64 y1 ∧ VarZ wr (W.heap.size + 1) ⟨x1, 0, vl0, vl0⟩) ∨ (∃ (x1 : Nat) (y1 : Int) (x2 : Nat) (y2 : Int), getC s i = (x1, y1, 0) ∧ getC s y1 = (x2, y2, 0) ∧ kv = .int .i64 2 ∧ av = .int .i64 y2 ∧ VarZ wr (W.heap.size + 1) ⟨x1, x2, vl0, vl0⟩))) (fun _ _ _ kv _ => 2 - (intOf kv).toNat)
  case atStart => exact ⟨rfl, rfl, HB0.out, HV0.out, .inl ⟨rfl, rfl, HZ0.out⟩⟩
  case round =>
    clear HV0 HZ0 HB0
    obtain ⟨rfl, rfl, hbel, hres, hst⟩ := hrel
    have hsz := hres.lt
    rcases hst with ⟨rfl, rfl, hz⟩ | ⟨x1, y1, h1, rfl, rfl, hz⟩ | ⟨x1, y1, x2, y2, h1, h2, rfl, rfl, hz⟩
    · obtain ⟨a, b, c, hg⟩ : ∃ a b c, getR s i = (a, b, c) := ⟨_, _, _, rfl⟩
      have HG := fun w => Lib.hid (HRG.out _ _ _ _ hg w)
      clear HRG
      by_cases hc : c = 0
      · subst hc
        by_cases ha : 4096 < a
        · have hd := getC_big hg ha
          clear hg HS hz
          have HE := Lib.hid (getZ_1 hd (by decide))
          have hP := (hres).put (zn0)
          have HPB := Lib.hid (put8_below (z := (zn0)) (hbel) (Nat.le_refl _))
          unfold put8 at hP HPB
          have HP := Lib.hid hP
          obtain ⟨g0, g1, g2, g3, g4, g5, g6, g7⟩ := (hres).frz
          obtain ⟨r0, r1, r2, r3, r4, r5, r6, r7, _⟩ := hres
          clear hP
          clear hbel
          go_wp2_with fail
          (with_reducible refine (HG _).out.mono ?_); rintro e w1 ⟨rfl, rfl⟩
          go_wp2
          obtain ⟨m0, m1, m2, m3, m4, m5, m6, m7, _⟩ := HP.out
          simp only [zn0, vl0] at m0 m1 m2 m3 m4 m5 m6 m7
          refine bodyPost_ret (v := (.tuple #[(.agg #[.int .i64 0, .int .i64 0, .bool false, .int .i64 0, .string ⟨#[]⟩, .bool false, .int .i64 0, .string ⟨#[]⟩]), .int .i64 0, .int .i64 2])) (by simp [results, Try.results23, go_sem, m0, m1, m2, m3, m4, m5, m6, m7]) rfl ?_
          exact RetB.mk (by rw [HE.out]; rfl) HPB.out
        · have HD := Lib.hid (getC_good hg ha)
          have hw : IntKind.i64.wrap (a : Int) = (a : Int) := IntWalk.i64_in _ ⟨by omega, by omega⟩
          clear hg
          have HZN := Lib.hid (hz.set0 (a : Int))
          have HRN := Lib.hid (hres.other (show W.heap.size ≠ W.heap.size + 1 by omega) 0 (.int .i64 (a : Int)))
          have HBN := Lib.hid (hbel.setCell (p := ⟨W.heap.size + 1, 0, none⟩) (show W.heap.size ≤ W.heap.size + 1 by omega) (.int .i64 (a : Int)))
          have zf := hz.fr 0 (by decide)
          obtain ⟨z0, z1, _, _, _, _, _, _, _⟩ := hz
          clear hres hbel
          go_wp2_with fail
          (with_reducible refine (HG _).out.mono ?_); rintro e w1 ⟨rfl, rfl⟩
          go_wp2_with fail
          go_roundw
          case rel => exact ⟨rfl, rfl, HBN.out, HRN.out, .inr (.inl ⟨a, b, HD.out, by go_num, rfl, HZN.out⟩)⟩
          case measure => simp [intOf] <;> omega
      · have hd := getC_bad hg hc
        have en := ine_t (a := (c : Int)) (b := 0) (by omega)
        clear hg HS hz
        have HE := Lib.hid (getZ_1 hd hc)
        have hP := (hres).put (zn0)
        have HPB := Lib.hid (put8_below (z := (zn0)) (hbel) (Nat.le_refl _))
        unfold put8 at hP HPB
        have HP := Lib.hid hP
        obtain ⟨g0, g1, g2, g3, g4, g5, g6, g7⟩ := (hres).frz
        obtain ⟨r0, r1, r2, r3, r4, r5, r6, r7, _⟩ := hres
        clear hP
        clear hbel
        go_wp2_with fail
        (with_reducible refine (HG _).out.mono ?_); rintro e w1 ⟨rfl, rfl⟩
        go_wp2
        obtain ⟨m0, m1, m2, m3, m4, m5, m6, m7, _⟩ := HP.out
        simp only [zn0, vl0] at m0 m1 m2 m3 m4 m5 m6 m7
        refine bodyPost_ret (v := (.tuple #[(.agg #[.int .i64 0, .int .i64 0, .bool false, .int .i64 0, .string ⟨#[]⟩, .bool false, .int .i64 0, .string ⟨#[]⟩]), .int .i64 0, .int .i64 (c : Int)])) (by simp [results, Try.results23, go_sem, m0, m1, m2, m3, m4, m5, m6, m7]) rfl ?_
        exact RetB.mk (by rw [HE.out]; rfl) HPB.out
    · obtain ⟨a, b, c, hg⟩ : ∃ a b c, getR s y1 = (a, b, c) := ⟨_, _, _, rfl⟩
      have HG := fun w => Lib.hid (HRG.out _ _ _ _ hg w)
      clear HRG
      by_cases hc : c = 0
      · subst hc
        by_cases ha : 4096 < a
        · have hd := getC_big hg ha
          clear hg HS hz
          have HE := Lib.hid (getZ_2 h1 hd (by decide))
          have hP := (hres).put (zn0)
          have HPB := Lib.hid (put8_below (z := (zn0)) (hbel) (Nat.le_refl _))
          unfold put8 at hP HPB
          have HP := Lib.hid hP
          obtain ⟨g0, g1, g2, g3, g4, g5, g6, g7⟩ := (hres).frz
          obtain ⟨r0, r1, r2, r3, r4, r5, r6, r7, _⟩ := hres
          clear hP
          clear hbel
          go_wp2_with fail
          (with_reducible refine (HG _).out.mono ?_); rintro e w1 ⟨rfl, rfl⟩
          go_wp2
          obtain ⟨m0, m1, m2, m3, m4, m5, m6, m7, _⟩ := HP.out
          simp only [zn0, vl0] at m0 m1 m2 m3 m4 m5 m6 m7
          refine bodyPost_ret (v := (.tuple #[(.agg #[.int .i64 0, .int .i64 0, .bool false, .int .i64 0, .string ⟨#[]⟩, .bool false, .int .i64 0, .string ⟨#[]⟩]), .int .i64 0, .int .i64 2])) (by simp [results, Try.results23, go_sem, m0, m1, m2, m3, m4, m5, m6, m7]) rfl ?_
          exact RetB.mk (by rw [HE.out]; rfl) HPB.out
        · have HD := Lib.hid (getC_good hg ha)
          have hw : IntKind.i64.wrap (a : Int) = (a : Int) := IntWalk.i64_in _ ⟨by omega, by omega⟩
          clear hg
          have HZN := Lib.hid (hz.set1 (a : Int))
          have HRN := Lib.hid (hres.other (show W.heap.size ≠ W.heap.size + 1 by omega) 1 (.int .i64 (a : Int)))
          have HBN := Lib.hid (hbel.setCell (p := ⟨W.heap.size + 1, 1, none⟩) (show W.heap.size ≤ W.heap.size + 1 by omega) (.int .i64 (a : Int)))
          have zf := hz.fr 1 (by decide)
          obtain ⟨z0, z1, _, _, _, _, _, _, _⟩ := hz
          clear hres hbel
          go_wp2_with fail
          (with_reducible refine (HG _).out.mono ?_); rintro e w1 ⟨rfl, rfl⟩
          go_wp2_with fail
          go_roundw
          case rel => exact ⟨rfl, rfl, HBN.out, HRN.out, .inr (.inr ⟨x1, y1, a, b, h1, HD.out, by go_num, rfl, HZN.out⟩)⟩
          case measure => simp [intOf] <;> omega
      · have hd := getC_bad hg hc
        have en := ine_t (a := (c : Int)) (b := 0) (by omega)
        clear hg HS hz
        have HE := Lib.hid (getZ_2 h1 hd hc)
        have hP := (hres).put (zn0)
        have HPB := Lib.hid (put8_below (z := (zn0)) (hbel) (Nat.le_refl _))
        unfold put8 at hP HPB
        have HP := Lib.hid hP
        obtain ⟨g0, g1, g2, g3, g4, g5, g6, g7⟩ := (hres).frz
        obtain ⟨r0, r1, r2, r3, r4, r5, r6, r7, _⟩ := hres
        clear hP
        clear hbel
        go_wp2_with fail
        (with_reducible refine (HG _).out.mono ?_); rintro e w1 ⟨rfl, rfl⟩
        go_wp2
        obtain ⟨m0, m1, m2, m3, m4, m5, m6, m7, _⟩ := HP.out
        simp only [zn0, vl0] at m0 m1 m2 m3 m4 m5 m6 m7
        refine bodyPost_ret (v := (.tuple #[(.agg #[.int .i64 0, .int .i64 0, .bool false, .int .i64 0, .string ⟨#[]⟩, .bool false, .int .i64 0, .string ⟨#[]⟩]), .int .i64 0, .int .i64 (c : Int)])) (by simp [results, Try.results23, go_sem, m0, m1, m2, m3, m4, m5, m6, m7]) rfl ?_
        exact RetB.mk (by rw [HE.out]; rfl) HPB.out
    · clear HRG
      obtain ⟨b1, n1, t1, j1, q1, h3⟩ : ∃ b n t j f, getV s y2 = ⟨b, n, t, j, f⟩ := ⟨_, _, _, _, _, rfl⟩
      have H3 := fun w => Lib.hid (getV_is (f := 43) rgetV_any h3 w HS.out)
      by_cases he3 : q1 = 0
      · subst he3
        obtain ⟨b2, n2, t2, j2, q2, h4⟩ : ∃ b n t j f, getV s j1 = ⟨b, n, t, j, f⟩ := ⟨_, _, _, _, _, rfl⟩
        have H4 := fun w => Lib.hid (getV_is (f := 43) rgetV_any h4 w HS.out)
        clear HS
        go_wp2_with fail
        (with_reducible refine (H3 _).out.mono ?_); rintro e w3 ⟨rfl, hb3⟩
        have hrX := (hres.step hb3).alloc (.cells #[.bool b1, .int .i64 n1, .string t1] 23)
        have hzX := (hz.step hb3).alloc (.cells #[.bool b1, .int .i64 n1, .string t1] 23)
        have huX := Var3.new w3 (.bool b1) (.int .i64 n1) (.string t1) 23
        have hlX : W.heap.size + 1 < w3.heap.size := (hz.step hb3).lt
        have hBX := bel_trans (bel_trans hbel hb3) ((Below.refl w3.heap.size w3).alloc (Nat.le_refl _) (.cells #[.bool b1, .int .i64 n1, .string t1] 23))
        clear hb3 hres hz hbel
        go_upto_region 17 with fail
        have hvX : ∃ g, g = w3.heap.size := ⟨_, rfl⟩
        obtain ⟨g, hg⟩ := hvX
        rw [← hg] at huX hlX ⊢
        generalize w3.alloc (.cells #[.bool b1, .int .i64 n1, .string t1] 23) = X at *
        clear hg
        go_wp2_with fail
        (with_reducible refine (H4 _).out.mono ?_); rintro e w4 ⟨rfl, hb4⟩
        have hrY := (hrX.step hb4).alloc (.cells #[.bool b2, .int .i64 n2, .string t2] 23)
        have hzY := (hzX.step hb4).alloc (.cells #[.bool b2, .int .i64 n2, .string t2] 23)
        have huY := (huX.step hb4).step ((Below.refl w4.heap.size w4).alloc (Nat.le_refl _) (.cells #[.bool b2, .int .i64 n2, .string t2] 23))
        have hvY := Var3.new w4 (.bool b2) (.int .i64 n2) (.string t2) 23
        have hmY : W.heap.size + 1 < w4.heap.size := (hzX.step hb4).lt
        have hBY := bel_trans (bel_trans hBX hb4) ((Below.refl w4.heap.size w4).alloc (Nat.le_refl _) (.cells #[.bool b2, .int .i64 n2, .string t2] 23))
        clear hb4 hrX hzX huX hBX
        by_cases he4 : q2 = 0
        · subst he4
          have HE := Lib.hid (show (Value.tuple #[(.agg #[.int .i64 (x1 : Int), .int .i64 (x2 : Int), .bool b1, .int .i64 n1, .string t1, .bool b2, .int .i64 n2, .string t2]), .int .i64 j2, .int .i64 0]) = gZv (getZ s i) from by rw [getZ_ok h1 h2 h3 h4]; rfl)
          clear h1 h2 h3 h4
          go_upto_region 20 with fail
          have hvX : ∃ h, h = w4.heap.size := ⟨_, rfl⟩
          obtain ⟨h, hh⟩ := hvX
          rw [← hh] at hvY hmY ⊢
          generalize w4.alloc (.cells #[.bool b2, .int .i64 n2, .string t2] 23) = Y at *
          clear hh
          obtain ⟨k0, k1, k2, _, _, _⟩ := huY
          obtain ⟨l0, l1, l2, _, _, _⟩ := hvY
          have HZY := Lib.hid hzY
          have HRY := Lib.hid hrY
          have HBY := Lib.hid hBY
          obtain ⟨_, _, f2, f3, f4, f5, f6, f7⟩ := hzY.frz
          obtain ⟨_, _, z2, z3, z4, z5, z6, z7, _⟩ := hzY
          simp only [vl0] at z2 z3 z4 z5 z6 z7
          clear hrY hBY
          go_region
          have hne : W.heap.size ≠ W.heap.size + 1 := by omega
          have hzZ : VarZ ((((((Y.setCell ⟨W.heap.size + 1, 2, none⟩ (.bool b1)).setCell ⟨W.heap.size + 1, 3, none⟩ (.int .i64 n1)).setCell ⟨W.heap.size + 1, 4, none⟩ (.string t1)).setCell ⟨W.heap.size + 1, 5, none⟩ (.bool b2)).setCell ⟨W.heap.size + 1, 6, none⟩ (.int .i64 n2)).setCell ⟨W.heap.size + 1, 7, none⟩ (.string t2)) (W.heap.size + 1) ⟨x1, x2, ⟨b1, n1, t1⟩, ⟨b2, n2, t2⟩⟩ := (HZY.out.setMn ⟨b1, n1, t1⟩).setMx ⟨b2, n2, t2⟩
          have hrZ : VarZ ((((((Y.setCell ⟨W.heap.size + 1, 2, none⟩ (.bool b1)).setCell ⟨W.heap.size + 1, 3, none⟩ (.int .i64 n1)).setCell ⟨W.heap.size + 1, 4, none⟩ (.string t1)).setCell ⟨W.heap.size + 1, 5, none⟩ (.bool b2)).setCell ⟨W.heap.size + 1, 6, none⟩ (.int .i64 n2)).setCell ⟨W.heap.size + 1, 7, none⟩ (.string t2)) W.heap.size zn0 := (((((HRY.out.other hne 2 _).other hne 3 _).other hne 4 _).other hne 5 _).other hne 6 _).other hne 7 _
          have hBZ : Below W.heap.size W ((((((Y.setCell ⟨W.heap.size + 1, 2, none⟩ (.bool b1)).setCell ⟨W.heap.size + 1, 3, none⟩ (.int .i64 n1)).setCell ⟨W.heap.size + 1, 4, none⟩ (.string t1)).setCell ⟨W.heap.size + 1, 5, none⟩ (.bool b2)).setCell ⟨W.heap.size + 1, 6, none⟩ (.int .i64 n2)).setCell ⟨W.heap.size + 1, 7, none⟩ (.string t2)) := set3V_below (k := 5) (set3V_below (k := 2) HBY.out (by omega)) (by omega)
          clear k0 k1 k2 l0 l1 l2 f2 f3 f4 f5 f6 f7 z2 z3 z4 z5 z6 z7 hne
          generalize ((((((Y.setCell ⟨W.heap.size + 1, 2, none⟩ (.bool b1)).setCell ⟨W.heap.size + 1, 3, none⟩ (.int .i64 n1)).setCell ⟨W.heap.size + 1, 4, none⟩ (.string t1)).setCell ⟨W.heap.size + 1, 5, none⟩ (.bool b2)).setCell ⟨W.heap.size + 1, 6, none⟩ (.int .i64 n2)).setCell ⟨W.heap.size + 1, 7, none⟩ (.string t2)) = Z at *
          have hP := (hrZ).put (⟨x1, x2, ⟨b1, n1, t1⟩, ⟨b2, n2, t2⟩⟩)
          have HPB := Lib.hid (put8_below (z := (⟨x1, x2, ⟨b1, n1, t1⟩, ⟨b2, n2, t2⟩⟩)) (hBZ) (Nat.le_refl _))
          unfold put8 at hP HPB
          have HP := Lib.hid hP
          obtain ⟨g0, g1, g2, g3, g4, g5, g6, g7⟩ := (hrZ).frz
          obtain ⟨r0, r1, r2, r3, r4, r5, r6, r7, _⟩ := hrZ
          clear hP
          obtain ⟨z0, z1, z2, z3, z4, z5, z6, z7, _⟩ := hzZ
          simp only at z0 z1 z2 z3 z4 z5 z6 z7
          clear hBZ
          go_wp2
          obtain ⟨m0, m1, m2, m3, m4, m5, m6, m7, _⟩ := HP.out
          simp only at m0 m1 m2 m3 m4 m5 m6 m7
          refine bodyPost_ret (v := (.tuple #[(.agg #[.int .i64 (x1 : Int), .int .i64 (x2 : Int), .bool b1, .int .i64 n1, .string t1, .bool b2, .int .i64 n2, .string t2]), .int .i64 j2, .int .i64 0])) (by simp [results, Try.results23, go_sem, m0, m1, m2, m3, m4, m5, m6, m7]) rfl ?_
          with_reducible (first | exact RetB.mk HE.out HPB.out | exact RetB.mk HE.out HPB.out.drew)
        · have HE := Lib.hid (getZ_4 h1 h2 h3 h4 he4)
          have en := ine_t (a := (q2 : Int)) (b := 0) (by omega)
          clear h1 h2 h3 h4 he4
          go_upto_region 19 with fail
          generalize w4.alloc (.cells #[.bool b2, .int .i64 n2, .string t2] 23) = Y at *
          have hP := (hrY).put (zn0)
          have HPB := Lib.hid (put8_below (z := (zn0)) (hBY) (Nat.le_refl _))
          unfold put8 at hP HPB
          have HP := Lib.hid hP
          obtain ⟨g0, g1, g2, g3, g4, g5, g6, g7⟩ := (hrY).frz
          obtain ⟨r0, r1, r2, r3, r4, r5, r6, r7, _⟩ := hrY
          clear hP
          clear hBY hzY huY hvY
          go_wp2
          obtain ⟨m0, m1, m2, m3, m4, m5, m6, m7, _⟩ := HP.out
          simp only [zn0, vl0] at m0 m1 m2 m3 m4 m5 m6 m7
          refine bodyPost_ret (v := (.tuple #[(.agg #[.int .i64 0, .int .i64 0, .bool false, .int .i64 0, .string ⟨#[]⟩, .bool false, .int .i64 0, .string ⟨#[]⟩]), .int .i64 0, .int .i64 (q2 : Int)])) (by simp [results, Try.results23, go_sem, m0, m1, m2, m3, m4, m5, m6, m7]) rfl ?_
          exact RetB.mk (by rw [HE.out]; rfl) HPB.out
      · have HE := Lib.hid (getZ_3 h1 h2 h3 he3)
        have en := ine_t (a := (q1 : Int)) (b := 0) (by omega)
        clear h1 h2 h3 he3 HS
        go_wp2_with fail
        (with_reducible refine (H3 _).out.mono ?_); rintro e w3 ⟨rfl, hb3⟩
        have hrX := (hres.step hb3).alloc (.cells #[.bool b1, .int .i64 n1, .string t1] 23)
        have hBX := bel_trans (bel_trans hbel hb3) ((Below.refl w3.heap.size w3).alloc (Nat.le_refl _) (.cells #[.bool b1, .int .i64 n1, .string t1] 23))
        clear hb3 hres hz hbel
        go_upto_region 16 with fail
        generalize w3.alloc (.cells #[.bool b1, .int .i64 n1, .string t1] 23) = X at *
        have hP := (hrX).put (zn0)
        have HPB := Lib.hid (put8_below (z := (zn0)) (hBX) (Nat.le_refl _))
        unfold put8 at hP HPB
        have HP := Lib.hid hP
        obtain ⟨g0, g1, g2, g3, g4, g5, g6, g7⟩ := (hrX).frz
        obtain ⟨r0, r1, r2, r3, r4, r5, r6, r7, _⟩ := hrX
        clear hP
        clear hBX
        go_wp2
        obtain ⟨m0, m1, m2, m3, m4, m5, m6, m7, _⟩ := HP.out
        simp only [zn0, vl0] at m0 m1 m2 m3 m4 m5 m6 m7
        refine bodyPost_ret (v := (.tuple #[(.agg #[.int .i64 0, .int .i64 0, .bool false, .int .i64 0, .string ⟨#[]⟩, .bool false, .int .i64 0, .string ⟨#[]⟩]), .int .i64 0, .int .i64 (q1 : Int)])) (by simp [results, Try.results23, go_sem, m0, m1, m2, m3, m4, m5, m6, m7]) rfl ?_
        exact RetB.mk (by rw [HE.out]; rfl) HPB.out
end Go.Proofs.Ythohmngckpjlbaa
