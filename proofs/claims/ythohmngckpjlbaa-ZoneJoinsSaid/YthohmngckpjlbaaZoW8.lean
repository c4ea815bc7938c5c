/- The walks over package zone's getCount and Get. -/
import Derived.Test.YthohmngckpjlbaaZoW2
import Derived.Test.YthohmngckpjlbaaValW8
import Derived.Deep.CutRange
namespace Go.ZN
open Go.RowKit Go.VB Go.VS Go.VL Go.VarM
/-- A number of rows as it is read: the number, the index behind it, the code. -/
def getC (s : ByteArray) (i : Int) : Nat × Int × Nat := if (getR s i).2.2 ≠ 0 then (0, 0, (getR s i).2.2) else if 4096 < (getR s i).1 then (0, 0, 2) else ((getR s i).1, (getR s i).2.1, 0)
theorem getC_le (s : ByteArray) (i : Int) : (getC s i).1 ≤ 4096 := by
  unfold getC
  split
  · exact Nat.zero_le _
  · split
    · exact Nat.zero_le _
    · rename_i h; exact Nat.not_lt.1 h
/-- What Get finds: a zone, the index behind it, a code. -/
def getZ (s : ByteArray) (i : Int) : Zn × Int × Nat :=
  if (getC s i).2.2 ≠ 0 then (zn0, 0, (getC s i).2.2)
  else if (getC s (getC s i).2.1).2.2 ≠ 0 then (zn0, 0, (getC s (getC s i).2.1).2.2)
  else if (getV s (getC s (getC s i).2.1).2.1).e ≠ 0 then (zn0, 0, (getV s (getC s (getC s i).2.1).2.1).e)
  else if (getV s (getV s (getC s (getC s i).2.1).2.1).i).e ≠ 0 then (zn0, 0, (getV s (getV s (getC s (getC s i).2.1).2.1).i).e)
  else (⟨(getC s i).1, (getC s (getC s i).2.1).1, ⟨(getV s (getC s (getC s i).2.1).2.1).nul, (getV s (getC s (getC s i).2.1).2.1).n, (getV s (getC s (getC s i).2.1).2.1).s⟩, ⟨(getV s (getV s (getC s (getC s i).2.1).2.1).i).nul, (getV s (getV s (getC s (getC s i).2.1).2.1).i).n, (getV s (getV s (getC s (getC s i).2.1).2.1).i).s⟩⟩, (getV s (getV s (getC s (getC s i).2.1).2.1).i).i, 0)
def gZv (g : Zn × Int × Nat) : Value := .tuple #[g.1.val, .int .i64 g.2.1, .int .i64 (g.2.2 : Int)]
section
variable {s : ByteArray} {i y1 y2 j1 j2 : Int} {x1 x2 e1 e2 f1 f2 : Nat} {b1 b2 : Bool} {n1 n2 : Int} {t1 t2 : ByteArray}
theorem getZ_1 (h1 : getC s i = (x1, y1, e1)) (h : e1 ≠ 0) : getZ s i = (zn0, 0, e1) := by unfold getZ; rw [h1, if_pos h]
theorem getZ_2 (h1 : getC s i = (x1, y1, 0)) (h2 : getC s y1 = (x2, y2, e2)) (h : e2 ≠ 0) : getZ s i = (zn0, 0, e2) := by unfold getZ; rw [h1, if_neg (fun h => h rfl), h2, if_pos h]
theorem getZ_3 (h1 : getC s i = (x1, y1, 0)) (h2 : getC s y1 = (x2, y2, 0)) (h3 : getV s y2 = ⟨b1, n1, t1, j1, f1⟩) (h : f1 ≠ 0) : getZ s i = (zn0, 0, f1) := by unfold getZ; rw [h1, if_neg (fun h => h rfl), h2, if_neg (fun h => h rfl), h3, if_pos h]
theorem getZ_4 (h1 : getC s i = (x1, y1, 0)) (h2 : getC s y1 = (x2, y2, 0)) (h3 : getV s y2 = ⟨b1, n1, t1, j1, 0⟩) (h4 : getV s j1 = ⟨b2, n2, t2, j2, f2⟩) (h : f2 ≠ 0) : getZ s i = (zn0, 0, f2) := by unfold getZ; rw [h1, if_neg (fun h => h rfl), h2, if_neg (fun h => h rfl), h3, if_neg (fun h => h rfl), h4, if_pos h]
theorem getZ_ok (h1 : getC s i = (x1, y1, 0)) (h2 : getC s y1 = (x2, y2, 0)) (h3 : getV s y2 = ⟨b1, n1, t1, j1, 0⟩) (h4 : getV s j1 = ⟨b2, n2, t2, j2, 0⟩) : getZ s i = (⟨x1, x2, ⟨b1, n1, t1⟩, ⟨b2, n2, t2⟩⟩, j2, 0) := by unfold getZ; rw [h1, if_neg (fun h => h rfl), h2, if_neg (fun h => h rfl), h3, if_neg (fun h => h rfl), h4, if_neg (fun h => h rfl)]
end
end Go.ZN
namespace Go.Proofs.Ythohmngckpjlbaa
open Go.RowKit Go.VB Go.VL Go.VS Go.ZN Go.VarM
set_option linter.constructorNameAsVariable false
theorem getV_is {f : FuncId} (H : ∀ (s : ByteArray) (i : Int) (w : World) (_ : s.size ≤ 4611686018427387904), Calls Try.prog f #[.string s, .int .i64 i] w (RetB (getV s i).val w)) {s : ByteArray} {i j : Int} {b : Bool} {n : Int} {t : ByteArray} {e : Nat} (h : getV s i = ⟨b, n, t, j, e⟩) (w : World) (hs : s.size ≤ 4611686018427387904) :
    Calls Try.prog f #[.string s, .int .i64 i] w (RetB (.tuple #[(.agg #[.bool b, .int .i64 n, .string t]), .int .i64 j, .int .i64 (e : Int)]) w) := by
  have h0 := H s i w hs
  rw [h] at h0
  exact h0
set_option maxRecDepth 100000 in
set_option maxHeartbeats 1000000 in
theorem getc_is {s : ByteArray} {i y : Int} {x e : Nat} (h : getC s i = (x, y, e)) (w : World) (hs : s.size ≤ maxLen) : Calls Try.prog 40 #[.string s, .int .i64 i] w (Ret (.tuple #[.int .i64 (x : Int), .int .i64 y, .int .i64 (e : Int)]) w) := by
  obtain ⟨a, b, c, hg⟩ : ∃ a b c, getR s i = (a, b, c) := ⟨_, _, _, rfl⟩
  have H := fun w => Lib.hid (vget_is s i w hs hg)
  unfold getC at h
  rw [hg] at h
  simp only at h
  clear hg
  by_cases hc : c = 0
  · subst hc
    rw [if_neg (fun h => h rfl)] at h
    by_cases ha : 4096 < a
    · rw [if_pos ha] at h
      obtain ⟨rfl, rfl, rfl⟩ : 0 = x ∧ 0 = y ∧ 2 = e := by simpa using h
      clear h
      go_enter Try.func40, Try.ntmps40
      go_wp2_with fail
      (with_reducible refine (H _).out.mono ?_); rintro e w1 ⟨rfl, rfl⟩
      go_wp2
      refine bodyPost_ret (v := .tuple #[.int .i64 0, .int .i64 0, .int .i64 2]) (by simp [results, Try.results40, go_sem]) rfl ?_
      exact Ret.mk rfl
    · rw [if_neg ha] at h
      obtain ⟨rfl, rfl, rfl⟩ : a = x ∧ b = y ∧ 0 = e := by simpa using h
      clear h
      have hw : IntKind.i64.wrap (a : Int) = (a : Int) := IntWalk.i64_in _ ⟨by omega, by omega⟩
      go_enter Try.func40, Try.ntmps40
      go_wp2_with fail
      (with_reducible refine (H _).out.mono ?_); rintro e w1 ⟨rfl, rfl⟩
      go_wp2
      refine bodyPost_ret (v := .tuple #[.int .i64 (a : Int), .int .i64 b, .int .i64 0]) (by simp [results, Try.results40, go_sem]) rfl ?_
      exact Ret.mk rfl
  · rw [if_pos hc] at h
    obtain ⟨rfl, rfl, rfl⟩ : 0 = x ∧ 0 = y ∧ c = e := by simpa using h
    clear h
    have e1 : ((c : Int) != 0) = true := ine_t (by omega)
    clear hc
    go_enter Try.func40, Try.ntmps40
    go_wp2_with fail
    (with_reducible refine (H _).out.mono ?_); rintro e w1 ⟨rfl, rfl⟩
    go_wp2
    refine bodyPost_ret (v := .tuple #[.int .i64 0, .int .i64 0, .int .i64 (c : Int)]) (by simp [results, Try.results40, go_sem]) rfl ?_
    exact Ret.mk rfl
set_option maxRecDepth 100000 in
set_option maxHeartbeats 2000000 in
theorem zget_1 {s : ByteArray} {i : Int} {x1 e1 : Nat} {y1 : Int} (W : World) (hs : s.size ≤ 4611686018427387904) (h1 : getC s i = (x1, y1, e1)) (h : e1 ≠ 0) : Calls Try.prog 22 #[.string s, .int .i64 i] W (RetB (gZv (getZ s i)) W) := by
  have hsM : s.size ≤ maxLen := by unfold maxLen; omega
  have HV0 := Lib.hid (VarZ.new W zn0 25)
  have HB0 := Lib.hid (show Below W.heap.size W (W.alloc (.cells #[.int .i64 0, .int .i64 0, .bool false, .int .i64 0, .string ⟨#[]⟩, .bool false, .int .i64 0, .string ⟨#[]⟩] 25)) from by go_grown)
  have H1 := fun w => Lib.hid (getc_is h1 w hsM)
  rw [getZ_1 h1 h]
  have en := ine_t (a := (e1 : Int)) (b := 0) (by omega)
  clear hs hsM h1 h
  go_enter Try.func22, Try.ntmps22
  go_wp2_with fail
  (with_reducible refine (H1 _).out.mono ?_); rintro e w1 ⟨rfl, rfl⟩
  go_wp2
  refine bodyPost_ret (v := (.tuple #[(.agg #[.int .i64 0, .int .i64 0, .bool false, .int .i64 0, .string ⟨#[]⟩, .bool false, .int .i64 0, .string ⟨#[]⟩]), .int .i64 0, .int .i64 (e1 : Int)])) (by simp [results, Try.results22, go_sem]) rfl ?_
  exact RetB.mk rfl HB0.out
set_option maxRecDepth 100000 in
set_option maxHeartbeats 2000000 in
theorem zget_2 {s : ByteArray} {i : Int} {x1 x2 e2 : Nat} {y1 y2 : Int} (W : World) (hs : s.size ≤ 4611686018427387904) (h1 : getC s i = (x1, y1, 0)) (h2 : getC s y1 = (x2, y2, e2)) (h : e2 ≠ 0) : Calls Try.prog 22 #[.string s, .int .i64 i] W (RetB (gZv (getZ s i)) W) := by
  have hsM : s.size ≤ maxLen := by unfold maxLen; omega
  have HV0 := Lib.hid (VarZ.new W zn0 25)
  have HB0 := Lib.hid (show Below W.heap.size W (W.alloc (.cells #[.int .i64 0, .int .i64 0, .bool false, .int .i64 0, .string ⟨#[]⟩, .bool false, .int .i64 0, .string ⟨#[]⟩] 25)) from by go_grown)
  have H1 := fun w => Lib.hid (getc_is h1 w hsM)
  have H2 := fun w => Lib.hid (getc_is h2 w hsM)
  rw [getZ_2 h1 h2 h]
  have en := ine_t (a := (e2 : Int)) (b := 0) (by omega)
  clear hs hsM h1 h2 h
  go_enter Try.func22, Try.ntmps22
  go_wp2_with fail
  (with_reducible refine (H1 _).out.mono ?_); rintro e w1 ⟨rfl, rfl⟩
  go_wp2_with fail
  (with_reducible refine (H2 _).out.mono ?_); rintro e w1 ⟨rfl, rfl⟩
  go_wp2
  refine bodyPost_ret (v := (.tuple #[(.agg #[.int .i64 0, .int .i64 0, .bool false, .int .i64 0, .string ⟨#[]⟩, .bool false, .int .i64 0, .string ⟨#[]⟩]), .int .i64 0, .int .i64 (e2 : Int)])) (by simp [results, Try.results22, go_sem]) rfl ?_
  exact RetB.mk rfl HB0.out
set_option maxRecDepth 100000 in
set_option maxHeartbeats 2000000 in
theorem zget_3 {s : ByteArray} {i : Int} {x1 x2 q1 : Nat} {y1 y2 j1 n1 : Int} {b1 : Bool} {t1 : ByteArray} (W : World) (hs : s.size ≤ 4611686018427387904) (h1 : getC s i = (x1, y1, 0)) (h2 : getC s y1 = (x2, y2, 0)) (h3 : getV s y2 = ⟨b1, n1, t1, j1, q1⟩) (h : q1 ≠ 0) : Calls Try.prog 22 #[.string s, .int .i64 i] W (RetB (gZv (getZ s i)) W) := by
  have hsM : s.size ≤ maxLen := by unfold maxLen; omega
  have HV0 := Lib.hid (VarZ.new W zn0 25)
  have HB0 := Lib.hid (show Below W.heap.size W (W.alloc (.cells #[.int .i64 0, .int .i64 0, .bool false, .int .i64 0, .string ⟨#[]⟩, .bool false, .int .i64 0, .string ⟨#[]⟩] 25)) from by go_grown)
  have H1 := fun w => Lib.hid (getc_is h1 w hsM)
  have H2 := fun w => Lib.hid (getc_is h2 w hsM)
  have H3 := fun w => Lib.hid (getV_is (f := 41) getV_any h3 w hs)
  rw [getZ_3 h1 h2 h3 h]
  have en := ine_t (a := (q1 : Int)) (b := 0) (by omega)
  clear hs hsM h1 h2 h3 h
  go_enter Try.func22, Try.ntmps22
  go_wp2_with fail
  (with_reducible refine (H1 _).out.mono ?_); rintro e w1 ⟨rfl, rfl⟩
  go_wp2_with fail
  (with_reducible refine (H2 _).out.mono ?_); rintro e w1 ⟨rfl, rfl⟩
  go_wp2_with fail
  (with_reducible refine (H3 _).out.mono ?_); rintro e w3 ⟨rfl, hb3⟩
  have hrX := (HV0.out.step hb3).alloc (.cells #[.bool b1, .int .i64 n1, .string t1] 23)
  have hBX := bel_trans (bel_trans HB0.out hb3) ((Below.refl w3.heap.size w3).alloc (Nat.le_refl _) (.cells #[.bool b1, .int .i64 n1, .string t1] 23))
  clear hb3 HV0 HB0
  go_upto_region 9 with fail
  generalize w3.alloc (.cells #[.bool b1, .int .i64 n1, .string t1] 23) = X at *
  have hP := (hrX).put (zn0)
  have HPB := Lib.hid (put8_below (z := (zn0)) (hBX) (Nat.le_refl _))
  unfold put8 at hP HPB
  have HP := Lib.hid hP
  obtain ⟨g0, g1, g2, g3, g4, g5, g6, g7⟩ := (hrX).frz
  obtain ⟨r0, r1, r2, r3, r4, r5, r6, r7, _⟩ := hrX
  clear hP
  clear hBX
  go_wp2
  obtain ⟨m0, m1, m2, m3, m4, m5, m6, m7, _⟩ := HP.out
  simp only [zn0, vl0] at m0 m1 m2 m3 m4 m5 m6 m7
  refine bodyPost_ret (v := (.tuple #[(.agg #[.int .i64 0, .int .i64 0, .bool false, .int .i64 0, .string ⟨#[]⟩, .bool false, .int .i64 0, .string ⟨#[]⟩]), .int .i64 0, .int .i64 (q1 : Int)])) (by simp [results, Try.results22, go_sem, m0, m1, m2, m3, m4, m5, m6, m7]) rfl ?_
  exact RetB.mk rfl HPB.out
set_option maxRecDepth 100000 in
set_option maxHeartbeats 2000000 in
theorem zget_4 {s : ByteArray} {i : Int} {x1 x2 q2 : Nat} {y1 y2 j1 n1 j2 n2 : Int} {b1 b2 : Bool} {t1 t2 : ByteArray} (W : World) (hs : s.size ≤ 4611686018427387904) (h1 : getC s i = (x1, y1, 0)) (h2 : getC s y1 = (x2, y2, 0)) (h3 : getV s y2 = ⟨b1, n1, t1, j1, 0⟩) (h4 : getV s j1 = ⟨b2, n2, t2, j2, q2⟩) (h : q2 ≠ 0) : Calls Try.prog 22 #[.string s, .int .i64 i] W (RetB (gZv (getZ s i)) W) := by
  have hsM : s.size ≤ maxLen := by unfold maxLen; omega
  have HV0 := Lib.hid (VarZ.new W zn0 25)
  have HB0 := Lib.hid (show Below W.heap.size W (W.alloc (.cells #[.int .i64 0, .int .i64 0, .bool false, .int .i64 0, .string ⟨#[]⟩, .bool false, .int .i64 0, .string ⟨#[]⟩] 25)) from by go_grown)
  have H1 := fun w => Lib.hid (getc_is h1 w hsM)
  have H2 := fun w => Lib.hid (getc_is h2 w hsM)
  have H3 := fun w => Lib.hid (getV_is (f := 41) getV_any h3 w hs)
  have H4 := fun w => Lib.hid (getV_is (f := 41) getV_any h4 w hs)
  rw [getZ_4 h1 h2 h3 h4 h]
  have en := ine_t (a := (q2 : Int)) (b := 0) (by omega)
  clear hs hsM h1 h2 h3 h4 h
  go_enter Try.func22, Try.ntmps22
  go_wp2_with fail
  (with_reducible refine (H1 _).out.mono ?_); rintro e w1 ⟨rfl, rfl⟩
  go_wp2_with fail
  (with_reducible refine (H2 _).out.mono ?_); rintro e w1 ⟨rfl, rfl⟩
  go_wp2_with fail
  (with_reducible refine (H3 _).out.mono ?_); rintro e w3 ⟨rfl, hb3⟩
  have hr3 := (HV0.out.step hb3).alloc (.cells #[.bool b1, .int .i64 n1, .string t1] 23)
  have hv3 := Var3.new w3 (.bool b1) (.int .i64 n1) (.string t1) 23
  have hb3a := bel_trans (bel_trans HB0.out hb3) ((Below.refl w3.heap.size w3).alloc (Nat.le_refl _) (.cells #[.bool b1, .int .i64 n1, .string t1] 23))
  clear hb3
  go_wp2_with fail
  (with_reducible refine (H4 _).out.mono ?_); rintro e w4 ⟨rfl, hb4⟩
  have hrX := (hr3.step hb4).alloc (.cells #[.bool b2, .int .i64 n2, .string t2] 23)
  have hvX := (hv3.step hb4).step ((Below.refl w4.heap.size w4).alloc (Nat.le_refl _) (.cells #[.bool b2, .int .i64 n2, .string t2] 23))
  have huX := Var3.new w4 (.bool b2) (.int .i64 n2) (.string t2) 23
  have hBX := bel_trans (bel_trans hb3a hb4) ((Below.refl w4.heap.size w4).alloc (Nat.le_refl _) (.cells #[.bool b2, .int .i64 n2, .string t2] 23))
  clear hr3 hv3 hb3a hb4 HV0 HB0
  go_upto_region 12 with fail
  generalize w4.alloc (.cells #[.bool b2, .int .i64 n2, .string t2] 23) = X at *
  clear hvX huX
  have hP := (hrX).put (zn0)
  have HPB := Lib.hid (put8_below (z := (zn0)) (hBX) (Nat.le_refl _))
  unfold put8 at hP HPB
  have HP := Lib.hid hP
  obtain ⟨g0, g1, g2, g3, g4, g5, g6, g7⟩ := (hrX).frz
  obtain ⟨r0, r1, r2, r3, r4, r5, r6, r7, _⟩ := hrX
  clear hP
  clear hBX
  go_wp2
  obtain ⟨m0, m1, m2, m3, m4, m5, m6, m7, _⟩ := HP.out
  simp only [zn0, vl0] at m0 m1 m2 m3 m4 m5 m6 m7
  refine bodyPost_ret (v := (.tuple #[(.agg #[.int .i64 0, .int .i64 0, .bool false, .int .i64 0, .string ⟨#[]⟩, .bool false, .int .i64 0, .string ⟨#[]⟩]), .int .i64 0, .int .i64 (q2 : Int)])) (by simp [results, Try.results22, go_sem, m0, m1, m2, m3, m4, m5, m6, m7]) rfl ?_
  exact RetB.mk rfl HPB.out
set_option maxRecDepth 100000 in
set_option maxHeartbeats 2000000 in
theorem zget_ok {s : ByteArray} {i : Int} {x1 x2 : Nat} {y1 y2 j1 n1 j2 n2 : Int} {b1 b2 : Bool} {t1 t2 : ByteArray} (W : World) (hs : s.size ≤ 4611686018427387904) (h1 : getC s i = (x1, y1, 0)) (h2 : getC s y1 = (x2, y2, 0)) (h3 : getV s y2 = ⟨b1, n1, t1, j1, 0⟩) (h4 : getV s j1 = ⟨b2, n2, t2, j2, 0⟩) : Calls Try.prog 22 #[.string s, .int .i64 i] W (RetB (gZv (getZ s i)) W) := by
  have hsM : s.size ≤ maxLen := by unfold maxLen; omega
  have HV0 := Lib.hid (VarZ.new W zn0 25)
  have HB0 := Lib.hid (show Below W.heap.size W (W.alloc (.cells #[.int .i64 0, .int .i64 0, .bool false, .int .i64 0, .string ⟨#[]⟩, .bool false, .int .i64 0, .string ⟨#[]⟩] 25)) from by go_grown)
  have H1 := fun w => Lib.hid (getc_is h1 w hsM)
  have H2 := fun w => Lib.hid (getc_is h2 w hsM)
  have H3 := fun w => Lib.hid (getV_is (f := 41) getV_any h3 w hs)
  have H4 := fun w => Lib.hid (getV_is (f := 41) getV_any h4 w hs)
  rw [getZ_ok h1 h2 h3 h4]
  clear hs hsM h1 h2 h3 h4
  go_enter Try.func22, Try.ntmps22
  go_wp2_with fail
  (with_reducible refine (H1 _).out.mono ?_); rintro e w1 ⟨rfl, rfl⟩
  go_wp2_with fail
  (with_reducible refine (H2 _).out.mono ?_); rintro e w1 ⟨rfl, rfl⟩
  go_wp2_with fail
  (with_reducible refine (H3 _).out.mono ?_); rintro e w3 ⟨rfl, hb3⟩
  have hr3 := (HV0.out.step hb3).alloc (.cells #[.bool b1, .int .i64 n1, .string t1] 23)
  have hv3 := Var3.new w3 (.bool b1) (.int .i64 n1) (.string t1) 23
  have hb3a := bel_trans (bel_trans HB0.out hb3) ((Below.refl w3.heap.size w3).alloc (Nat.le_refl _) (.cells #[.bool b1, .int .i64 n1, .string t1] 23))
  clear hb3
  go_wp2_with fail
  (with_reducible refine (H4 _).out.mono ?_); rintro e w4 ⟨rfl, hb4⟩
  have hrX := (hr3.step hb4).alloc (.cells #[.bool b2, .int .i64 n2, .string t2] 23)
  have hvX := (hv3.step hb4).step ((Below.refl w4.heap.size w4).alloc (Nat.le_refl _) (.cells #[.bool b2, .int .i64 n2, .string t2] 23))
  have huX := Var3.new w4 (.bool b2) (.int .i64 n2) (.string t2) 23
  have hBX := bel_trans (bel_trans hb3a hb4) ((Below.refl w4.heap.size w4).alloc (Nat.le_refl _) (.cells #[.bool b2, .int .i64 n2, .string t2] 23))
  clear hr3 hv3 hb3a hb4 HV0 HB0
  go_upto_region 13 with fail
  generalize w4.alloc (.cells #[.bool b2, .int .i64 n2, .string t2] 23) = X at *
  obtain ⟨k0, k1, k2, _, _, _⟩ := hvX
  obtain ⟨l0, l1, l2, _, _, _⟩ := huX
  have hP := (hrX).put (⟨x1, x2, ⟨b1, n1, t1⟩, ⟨b2, n2, t2⟩⟩)
  have HPB := Lib.hid (put8_below (z := (⟨x1, x2, ⟨b1, n1, t1⟩, ⟨b2, n2, t2⟩⟩)) (hBX) (Nat.le_refl _))
  unfold put8 at hP HPB
  have HP := Lib.hid hP
  obtain ⟨g0, g1, g2, g3, g4, g5, g6, g7⟩ := (hrX).frz
  obtain ⟨r0, r1, r2, r3, r4, r5, r6, r7, _⟩ := hrX
  clear hP
  clear hBX
  go_wp2
  obtain ⟨m0, m1, m2, m3, m4, m5, m6, m7, _⟩ := HP.out
  simp only at m0 m1 m2 m3 m4 m5 m6 m7
  refine bodyPost_ret (v := (.tuple #[(.agg #[.int .i64 (x1 : Int), .int .i64 (x2 : Int), .bool b1, .int .i64 n1, .string t1, .bool b2, .int .i64 n2, .string t2]), .int .i64 j2, .int .i64 0])) (by simp [results, Try.results22, go_sem, m0, m1, m2, m3, m4, m5, m6, m7]) rfl ?_
  exact RetB.mk rfl HPB.out
theorem zget_any (s : ByteArray) (i : Int) (W : World) (hs : s.size ≤ 4611686018427387904) : Calls Try.prog 22 #[.string s, .int .i64 i] W (RetB (gZv (getZ s i)) W) := by
  obtain ⟨x1, y1, e1, h1⟩ : ∃ x y e, getC s i = (x, y, e) := ⟨_, _, _, rfl⟩
  by_cases he1 : e1 = 0
  · subst he1
    obtain ⟨x2, y2, e2, h2⟩ : ∃ x y e, getC s y1 = (x, y, e) := ⟨_, _, _, rfl⟩
    by_cases he2 : e2 = 0
    · subst he2
      obtain ⟨b1, n1, t1, j1, q1, h3⟩ : ∃ b n t j f, getV s y2 = ⟨b, n, t, j, f⟩ := ⟨_, _, _, _, _, rfl⟩
      by_cases he3 : q1 = 0
      · subst he3
        obtain ⟨b2, n2, t2, j2, q2, h4⟩ : ∃ b n t j f, getV s j1 = ⟨b, n, t, j, f⟩ := ⟨_, _, _, _, _, rfl⟩
        by_cases he4 : q2 = 0
        · subst he4; exact zget_ok W hs h1 h2 h3 h4
        · exact zget_4 W hs h1 h2 h3 h4 he4
      · exact zget_3 W hs h1 h2 h3 he3
    · exact zget_2 W hs h1 h2 he2
  · exact zget_1 W hs h1 he1
end Go.Proofs.Ythohmngckpjlbaa
