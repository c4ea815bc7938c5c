/- The walks over package chunk: getPayload, getNulls. -/
import Derived.Test.YtbolbbngncnecaaGreatCkW8
namespace Go.CK
open Go.RowKit Go.VB Go.VarM Go.BP Go.VS Go.NU
/-- It returns marks and a place, and whether they are what D finds. -/
def NuP (D : Option (List Bool × Nat)) (w : World) : Ending → World → Prop := fun en w' =>
  ∃ v b q ok, en = .returned (.tuple #[v, .int .i64 q, .bool ok]) ∧ RdV Value.bool w' w'.heap.size v b ∧ ((ok = true ∧ ∃ k : Nat, q = k ∧ D = some (b, k)) ∨ (ok = false ∧ D = none)) ∧ Below w.heap.size w w'
theorem NuP.no {D : Option (List Bool × Nat)} {w w' : World} {x : Value} {q : Int} (hx : x = .tuple #[.slice none 0 0, .int .i64 q, .bool false]) (hd : D = none) (hb : Below w.heap.size w w') : NuP D w (.returned x) w' := ⟨_, _, _, _, by rw [hx], RdV.nil _ _ _, .inr ⟨rfl, hd⟩, hb⟩
theorem NuP.yes {D : Option (List Bool × Nat)} {w w' : World} {x v : Value} {k : Nat} {b : List Bool} (hx : x = .tuple #[v, .int .i64 (k : Int), .bool true]) (hr : RdV Value.bool w' w'.heap.size v b) (hd : D = some (b, k)) (hb : Below w.heap.size w w') : NuP D w (.returned x) w' := ⟨_, _, _, _, by rw [hx], hr, .inl ⟨rfl, _, rfl, hd⟩, hb⟩
section
variable {s : ByteArray} {p q : Int} {n e k r f m : Nat}
theorem nulD_e (h1 : getR s p = (n, q, e)) (he : e ≠ 0) : nulD s p = none := by unfold nulD; rw [h1, if_pos (.inl he)]
theorem nulD_big (h1 : getR s p = (n, q, 0)) (h : 4096 < n) : nulD s p = none := by unfold nulD; rw [h1, if_pos (.inr h)]
theorem nulD_e2 {q2 : Int} (h1 : getR s p = (n, q, 0)) (hn : n ≤ 4096) (h2 : getR s q = (k, q2, e)) (he : e ≠ 0) : nulD s p = none := by
  unfold nulD; rw [h1, if_neg (by simp only; omega)]; simp only; rw [h2, if_pos he]
theorem nulD_zero (h1 : getR s p = (n, q, 0)) (hn : n ≤ 4096) (h2 : getR s q = (0, (r : Int), 0)) : nulD s p = some (List.replicate n false, r) := by
  unfold nulD; rw [h1, if_neg (by simp only; omega)]; simp only; rw [h2, if_neg (by simp), if_pos rfl]; rfl
theorem nulD_short (h1 : getR s p = (n, q, 0)) (hn : n ≤ 4096) (h2 : getR s q = (k, (r : Int), 0)) (hk : k ≠ 0) (hm : (n + 7) / 8 = m) (hs : s.size < r + m) : nulD s p = none := by
  subst hm
  unfold nulD; rw [h1, if_neg (by simp only; omega)]; simp only; rw [h2, if_neg (by simp), if_neg hk, if_pos (by simpa using hs)]
theorem nulD_bad {B : ByteArray} (h1 : getR s p = (n, q, 0)) (hn : n ≤ 4096) (h2 : getR s q = (k, (r : Int), 0)) (hk : k ≠ 0) (hm : (n + 7) / 8 = m) (hs : r + m ≤ s.size) (hB : s.extract r (r + m) = B) (hb : (upk B n).2 ≠ 0 ∨ ones (num B) (8 * m) ≠ k) : nulD s p = none := by
  subst hm; subst hB
  unfold nulD; rw [h1, if_neg (by simp only; omega)]; simp only; rw [h2, if_neg (by simp), if_neg hk, if_neg (by simpa using hs), if_pos (by simpa using hb)]
theorem nulD_ok {B : ByteArray} (h1 : getR s p = (n, q, 0)) (hn : n ≤ 4096) (h2 : getR s q = (k, (r : Int), 0)) (hk : k ≠ 0) (hm : (n + 7) / 8 = m) (hs : r + m ≤ s.size) (hB : s.extract r (r + m) = B) (hb : (upk B n).2 = 0) (hc : ones (num B) (8 * m) = k) : nulD s p = some ((upk B n).1, r + m) := by
  subst hm; subst hB
  unfold nulD; rw [h1, if_neg (by simp only; omega)]; simp only; rw [h2, if_neg (by simp), if_neg hk, if_neg (by simpa using hs), if_neg (by simp only [Int.toNat_natCast]; omega)]; rfl
end
theorem run_makeBu {P : Program} {t e : TypeId} (ht : P.underlying t = some (.slice e)) (hinfo : (P.info? e).map (fun i => (i.zero, i.size, i.bytes)) = some (some (.bool false), 1, 1)) (n : Nat) (hn : n ≤ 4096) (w : World) :
    (Instr.makeSlice t (.int .u64 (n : Int)) (.int .u64 (n : Int))).run P w = .ok (.slice (some ⟨w.heap.size, 0, none⟩) n n) (w.alloc (.cells (madeCells #[.bool false] n) e)) := by
  obtain ⟨i, hi, hz, hsz, hby⟩ := info_parts hinfo
  have h := run_make (P := P) w t e i (.bool false) ht hi hz .u64 .u64 n n (by omega) (Int.le_refl _) (by rw [hby, ← Int.natCast_mul]; omega) (by omega)
  rw [Int.toNat_natCast, hsz, Nat.mul_one] at h
  exact h
theorem gn_facts {n r m z O : Nat} (hn : n ≤ 4096) (hm : (n + 7) / 8 = m) (hs : r + m ≤ z) (hz : z ≤ 140737488351232) (hO : O ≤ 8 * m) :
    decide ((4096 : Int) < (n : Int)) = false ∧ decide (4096 < n) = false ∧ wrap64 (n : Int) = (n : Int) ∧ ((n : Int) + 8 - 1) / 8 = (m : Int) ∧ ((n : Int) + 8 - 1).tdiv 8 = (m : Int) ∧ wrap64 ((r : Int) + (m : Int)) = (r : Int) + (m : Int) ∧
    decide ((z : Int) < ((r + m : Nat) : Int)) = false ∧ decide ((z : Int) < (r : Int) + (m : Int)) = false ∧ (r : Int) ≤ ((r + m : Nat) : Int) ∧ ((r + m : Nat) : Int) ≤ (z : Int) ∧ (r : Int) ≤ (r : Int) + (m : Int) ∧ (r : Int) + (m : Int) ≤ (z : Int) ∧ IntKind.u64.wrap (O : Int) = (O : Int) := by
  have hq1 : ((n : Int) + 8 - 1) / 8 = (m : Int) := by omega
  refine ⟨decide_eq_false (by omega), decide_eq_false (by omega), by unfold wrap64; omega, hq1, by rw [Int.tdiv_eq_ediv_of_nonneg (by omega)]; exact hq1, by unfold wrap64; omega, decide_eq_false (by omega), decide_eq_false (by omega), by omega, by omega, by omega, by omega, by rw [IntKind.wrap_u64]; omega⟩
end Go.CK
namespace Go.Proofs.YtbolbbngncnecaaGreat
open Go.RowKit Go.VB Go.VarM Go.BP Go.RL Go.VS Go.VL Go.DI Go.CK Go.NU
section
variable (typ : Int) (s : ByteArray) (n : Nat) (W : World) (zs : s.size ≤ 140737488351232) (hn : n ≤ 4096)
include zs hn
set_option maxRecDepth 100000 in
set_option maxHeartbeats 1000000 in
theorem getPay_1 : Calls Tryz.prog 57 #[.int .i64 typ, .int .i64 1, .string s, .int .i64 (n : Int)] W (PlP (payD typ 1 s n) W) := by
  rw [payD_1]
  have HP := Lib.hid (getPlain_any typ s n W zs hn)
  generalize plainD typ s n 0 [] = D at *
  go_enter Tryz.func57, Tryz.ntmps57
  go_wp2_with fail
  (with_reducible refine HP.out.mono ?_); rintro e w1 ⟨v, l, b, rfl, hr, hd, hb⟩
  have HD := Lib.hid hd; clear hd
  go_wp2
  go_ret2
  exact PlP.mk rfl hr HD.out hb
set_option maxRecDepth 100000 in
set_option maxHeartbeats 1000000 in
theorem getPay_2 : Calls Tryz.prog 57 #[.int .i64 typ, .int .i64 2, .string s, .int .i64 (n : Int)] W (PlP (payD typ 2 s n) W) := by
  rw [payD_2]
  have HLE := Lib.hid (decR_le (s := s) hn)
  have HP := Lib.hid (show Calls Tryz.prog _ #[.string s, .int .i64 (n : Int)] W (RetVE (Value.int .i64) 2 (decR s n).1 (decR s n).2 W) from decode_any (s := s) (hs := zs) (n := (n : Int)) (w := W))
  generalize decR s n = D at *
  obtain ⟨zl, c⟩ := D
  simp only at HP HLE ⊢
  have HO := Lib.hid (fun v w h => ofNums_any v zl w h (by have := HLE.out; omega))
  by_cases hc : c = 0
  · subst hc
    rw [if_pos rfl]
    go_enter Tryz.func57, Tryz.ntmps57
    go_wp2_with fail
    (with_reducible refine HP.out.mono ?_); rintro e w1 ⟨v, rfl, hown, hb1⟩
    go_wp2_with fail
    (with_reducible refine (HO.out v w1 hown.read).mono ?_); rintro e w2 ⟨v2, rfl, hown2, hb2⟩
    have hr2 := hown2.read
    have hB := bel_trans hb1 hb2
    clear hown hown2
    go_wp2
    go_ret2
    exact PlP.mk rfl hr2 (.inl ⟨rfl, rfl⟩) hB
  · have hd : ((c : Int) == 0) = false := ieq_f (by omega)
    rw [if_neg hc]
    clear hc
    go_enter Tryz.func57, Tryz.ntmps57
    go_wp2_with fail
    (with_reducible refine HP.out.mono ?_); rintro e w1 ⟨v, rfl, hown, hb1⟩
    go_wp2_with fail
    (with_reducible refine (HO.out v w1 hown.read).mono ?_); rintro e w2 ⟨v2, rfl, hown2, hb2⟩
    have hr2 := hown2.read
    have hB := bel_trans hb1 hb2
    clear hown hown2
    go_wp2
    go_ret2
    exact PlP.mk rfl hr2 (.inr ⟨rfl, rfl⟩) hB
set_option maxRecDepth 100000 in
set_option maxHeartbeats 1000000 in
theorem getPay_3 : Calls Tryz.prog 57 #[.int .i64 typ, .int .i64 3, .string s, .int .i64 (n : Int)] W (PlP (payD typ 3 s n) W) := by
  rw [payD_3]
  have HLE := Lib.hid (decD_le (s := s) hn)
  have HP := Lib.hid (show Calls Tryz.prog _ #[.string s, .int .i64 (n : Int)] W (RetVE Value.string 9 (decD s n).1 (decD s n).2 W) from dictdec_any (s := s) (hs := zs) (n := (n : Int)) (w := W))
  generalize decD s n = D at *
  obtain ⟨zl, c⟩ := D
  simp only at HP HLE ⊢
  have HO := Lib.hid (fun v w h => ofTxts_any v zl w h (by have := HLE.out; omega))
  by_cases hc : c = 0
  · subst hc
    rw [if_pos rfl]
    go_enter Tryz.func57, Tryz.ntmps57
    go_wp2_with fail
    (with_reducible refine HP.out.mono ?_); rintro e w1 ⟨v, rfl, hown, hb1⟩
    go_wp2_with fail
    (with_reducible refine (HO.out v w1 hown.read).mono ?_); rintro e w2 ⟨v2, rfl, hown2, hb2⟩
    have hr2 := hown2.read
    have hB := bel_trans hb1 hb2
    clear hown hown2
    go_wp2
    go_ret2
    exact PlP.mk rfl hr2 (.inl ⟨rfl, rfl⟩) hB
  · have hd : ((c : Int) == 0) = false := ieq_f (by omega)
    rw [if_neg hc]
    clear hc
    go_enter Tryz.func57, Tryz.ntmps57
    go_wp2_with fail
    (with_reducible refine HP.out.mono ?_); rintro e w1 ⟨v, rfl, hown, hb1⟩
    go_wp2_with fail
    (with_reducible refine (HO.out v w1 hown.read).mono ?_); rintro e w2 ⟨v2, rfl, hown2, hb2⟩
    have hr2 := hown2.read
    have hB := bel_trans hb1 hb2
    clear hown hown2
    go_wp2
    go_ret2
    exact PlP.mk rfl hr2 (.inr ⟨rfl, rfl⟩) hB
set_option maxRecDepth 100000 in
set_option maxHeartbeats 1000000 in
theorem getPay_4 : Calls Tryz.prog 57 #[.int .i64 typ, .int .i64 4, .string s, .int .i64 (n : Int)] W (PlP (payD typ 4 s n) W) := by
  rw [payD_4]
  have HLE := Lib.hid (decX_le (s := s) hn)
  have HP := Lib.hid (show Calls Tryz.prog _ #[.string s, .int .i64 (n : Int)] W (RetVE (Value.int .i64) 2 (Go.DL.decX s n).1 (Go.DL.decX s n).2 W) from ddecode_any (s := s) (hs := zs) (n := (n : Int)) (w := W))
  generalize Go.DL.decX s n = D at *
  obtain ⟨zl, c⟩ := D
  simp only at HP HLE ⊢
  have HO := Lib.hid (fun v w h => ofNums_any v zl w h (by have := HLE.out; omega))
  by_cases hc : c = 0
  · subst hc
    rw [if_pos rfl]
    go_enter Tryz.func57, Tryz.ntmps57
    go_wp2_with fail
    (with_reducible refine HP.out.mono ?_); rintro e w1 ⟨v, rfl, hown, hb1⟩
    go_wp2_with fail
    (with_reducible refine (HO.out v w1 hown.read).mono ?_); rintro e w2 ⟨v2, rfl, hown2, hb2⟩
    have hr2 := hown2.read
    have hB := bel_trans hb1 hb2
    clear hown hown2
    go_wp2
    go_ret2
    exact PlP.mk rfl hr2 (.inl ⟨rfl, rfl⟩) hB
  · have hd : ((c : Int) == 0) = false := ieq_f (by omega)
    rw [if_neg hc]
    clear hc
    go_enter Tryz.func57, Tryz.ntmps57
    go_wp2_with fail
    (with_reducible refine HP.out.mono ?_); rintro e w1 ⟨v, rfl, hown, hb1⟩
    go_wp2_with fail
    (with_reducible refine (HO.out v w1 hown.read).mono ?_); rintro e w2 ⟨v2, rfl, hown2, hb2⟩
    have hr2 := hown2.read
    have hB := bel_trans hb1 hb2
    clear hown hown2
    go_wp2
    go_ret2
    exact PlP.mk rfl hr2 (.inr ⟨rfl, rfl⟩) hB
theorem getPay_any (codec : Nat) (h1 : 1 ≤ codec) (h4 : codec ≤ 4) : Calls Tryz.prog 57 #[.int .i64 typ, .int .i64 (codec : Int), .string s, .int .i64 (n : Int)] W (PlP (payD typ codec s n) W) := by
  have h : codec = 1 ∨ codec = 2 ∨ codec = 3 ∨ codec = 4 := by omega
  rcases h with rfl | rfl | rfl | rfl
  · exact getPay_1 typ s n W zs hn
  · exact getPay_2 typ s n W zs hn
  · exact getPay_3 typ s n W zs hn
  · exact getPay_4 typ s n W zs hn
end
section
variable (s : ByteArray) (p : Int) (W : World) (zs : s.size ≤ 140737488351232)
include zs
set_option maxRecDepth 100000 in
set_option maxHeartbeats 1000000 in
theorem getNul_e {n e : Nat} {q : Int} (h1 : getR s p = (n, q, e)) (he : e ≠ 0 ∨ 4096 < n) (hD : nulD s p = none) : Calls Tryz.prog 56 #[.string s, .int .i64 p] W (NuP (nulD s p) W) := by
  have HG := fun w => Lib.hid (vget_is s p w (by unfold maxLen; omega) h1)
  have HD := Lib.hid hD
  generalize nulD s p = D at *
  clear hD h1
  by_cases he0 : e = 0
  · subst he0
    have hd : decide ((4096 : Int) < (n : Int)) = true := decide_eq_true (by omega)
    have hd2 : decide (4096 < n) = true := decide_eq_true (by omega)
    clear he
    go_enter Tryz.func56, Tryz.ntmps56
    go_wp2_with fail
    (with_reducible refine (HG _).out.mono ?_); rintro e w1 ⟨rfl, rfl⟩
    go_wp2
    refine bodyPost_ret (v := .tuple #[.slice none 0 0, .int .i64 0, .bool false]) (by simp [results, Tryz.results56, go_sem]) rfl ?_
    exact NuP.no rfl HD.out (Below.refl _ _)
  · have hd : ((e : Int) != 0) = true := ine_t (by omega)
    clear he he0
    go_enter Tryz.func56, Tryz.ntmps56
    go_wp2_with fail
    (with_reducible refine (HG _).out.mono ?_); rintro e w1 ⟨rfl, rfl⟩
    go_wp2
    refine bodyPost_ret (v := .tuple #[.slice none 0 0, .int .i64 0, .bool false]) (by simp [results, Tryz.results56, go_sem]) rfl ?_
    exact NuP.no rfl HD.out (Below.refl _ _)
set_option maxRecDepth 100000 in
set_option maxHeartbeats 1000000 in
theorem getNul_e2 {n k e : Nat} {q q2 : Int} (h1 : getR s p = (n, q, 0)) (hn : n ≤ 4096) (h2 : getR s q = (k, q2, e)) (he : e ≠ 0) : Calls Tryz.prog 56 #[.string s, .int .i64 p] W (NuP (nulD s p) W) := by
  have HG := fun w => Lib.hid (vget_ok s p w (by unfold maxLen; omega) h1)
  have HG2 := fun w => Lib.hid (vget_is s q w (by unfold maxLen; omega) h2)
  have HD := Lib.hid (nulD_e2 h1 hn h2 he)
  generalize nulD s p = D at *
  have hd : decide ((4096 : Int) < (n : Int)) = false := decide_eq_false (by omega)
  have hd2 : decide (4096 < n) = false := decide_eq_false (by omega)
  have hd3 : ((e : Int) != 0) = true := ine_t (by omega)
  clear h1 h2 he
  go_enter Tryz.func56, Tryz.ntmps56
  go_wp2_with fail
  (with_reducible refine (HG _).out.mono ?_); rintro e w1 ⟨rfl, rfl⟩
  go_wp2_with fail
  (with_reducible refine (HG2 _).out.mono ?_); rintro e w1 ⟨rfl, rfl⟩
  go_wp2
  refine bodyPost_ret (v := .tuple #[.slice none 0 0, .int .i64 0, .bool false]) (by simp [results, Tryz.results56, go_sem]) rfl ?_
  exact NuP.no rfl HD.out (Below.refl _ _)
set_option maxRecDepth 100000 in
set_option maxHeartbeats 1000000 in
theorem getNul_zero {n r : Nat} {q : Int} (h1 : getR s p = (n, q, 0)) (hn : n ≤ 4096) (h2 : getR s q = (0, (r : Int), 0)) : Calls Tryz.prog 56 #[.string s, .int .i64 p] W (NuP (nulD s p) W) := by
  have HG := fun w => Lib.hid (vget_ok s p w (by unfold maxLen; omega) h1)
  have HG2 := fun w => Lib.hid (vget_ok s q w (by unfold maxLen; omega) h2)
  have HD := Lib.hid (nulD_zero h1 hn h2)
  generalize nulD s p = D at *
  have hd : decide ((4096 : Int) < (n : Int)) = false := decide_eq_false (by omega)
  have hd2 : decide (4096 < n) = false := decide_eq_false (by omega)
  have hmk := run_makeBu (P := Tryz.prog) Tryz.underlying45 Tryz.infBool n hn W
  have hrow := RowV.made Value.bool false 4 W W.heap.size n (Nat.le_refl _) (by unfold maxLen; omega)
  have hb0 : Below W.heap.size W (W.alloc (.cells (madeCells #[.bool false] n) 4)) := (Below.refl _ _).alloc (Nat.le_refl _) _
  generalize (W.alloc (.cells (madeCells #[.bool false] n) 4)) = W1 at hmk hrow hb0
  have HRD := Lib.hid (hrow.own_at (n := n) List.length_replicate rfl).read
  clear h1 h2 hrow
  go_enter Tryz.func56, Tryz.ntmps56
  go_wp2_with fail
  (with_reducible refine (HG _).out.mono ?_); rintro e w1 ⟨rfl, rfl⟩
  go_wp2_with fail
  (with_reducible refine (HG2 _).out.mono ?_); rintro e w1 ⟨rfl, rfl⟩
  go_wp2
  refine bodyPost_ret (v := .tuple #[.slice (some ⟨W.heap.size, 0, none⟩) n n, .int .i64 (r : Int), .bool true]) (by simp [results, Tryz.results56, go_sem]) rfl ?_
  exact NuP.yes rfl HRD.out HD.out hb0
section
variable {n k r m : Nat} {q : Int} (h1 : getR s p = (n, q, 0)) (hn : n ≤ 4096) (h2 : getR s q = (k, (r : Int), 0)) (hk : k ≠ 0) (hm : (n + 7) / 8 = m) (hr : r ≤ s.size)
include h1 hn h2 hk hm hr
set_option maxRecDepth 100000 in
set_option maxHeartbeats 1000000 in
theorem getNul_short (hs : s.size < r + m) : Calls Tryz.prog 56 #[.string s, .int .i64 p] W (NuP (nulD s p) W) := by
  have HG := fun w => Lib.hid (vget_ok s p w (by unfold maxLen; omega) h1)
  have HG2 := fun w => Lib.hid (vget_ok s q w (by unfold maxLen; omega) h2)
  have HD := Lib.hid (nulD_short h1 hn h2 hk hm hs)
  generalize nulD s p = D at *
  have hd : decide ((4096 : Int) < (n : Int)) = false := decide_eq_false (by omega)
  have hd2 : decide (4096 < n) = false := decide_eq_false (by omega)
  have hd3 : ((k : Int) == 0) = false := ieq_f (by omega)
  have hw1 : wrap64 (n : Int) = (n : Int) := by unfold wrap64; omega
  have hq1 : ((n : Int) + 8 - 1) / 8 = (m : Int) := by omega
  have hq2 : ((n : Int) + 8 - 1).tdiv 8 = (m : Int) := by rw [Int.tdiv_eq_ediv_of_nonneg (by omega)]; exact hq1
  have hw2 : wrap64 ((r : Int) + (m : Int)) = (r : Int) + (m : Int) := by unfold wrap64; omega
  have hd4 : decide ((s.size : Int) < (r : Int) + (m : Int)) = true := decide_eq_true (by omega)
  have hm2 : m ≤ 512 := by omega
  clear h1 h2 hm hk
  go_enter Tryz.func56, Tryz.ntmps56
  go_wp2_with fail
  (with_reducible refine (HG _).out.mono ?_); rintro e w1 ⟨rfl, rfl⟩
  go_wp2_with fail
  (with_reducible refine (HG2 _).out.mono ?_); rintro e w1 ⟨rfl, rfl⟩
  go_wp2
  refine bodyPost_ret (v := .tuple #[.slice none 0 0, .int .i64 0, .bool false]) (by simp [results, Tryz.results56, go_sem]) rfl ?_
  exact NuP.no rfl HD.out (Below.refl _ _)
set_option maxRecDepth 100000 in
set_option maxHeartbeats 1000000 in
theorem getNul_map (hs : r + m ≤ s.size) : Calls Tryz.prog 56 #[.string s, .int .i64 p] W (NuP (nulD s p) W) := by
  have HG := fun w => Lib.hid (vget_ok s p w (by unfold maxLen; omega) h1)
  have HG2 := fun w => Lib.hid (vget_ok s q w (by unfold maxLen; omega) h2)
  obtain ⟨B, hB⟩ : ∃ B, s.extract r (r + m) = B := ⟨_, rfl⟩
  have hBs : B.size = m := by rw [← hB]; exact sz_extract hs
  have hm2 : m ≤ 512 := by omega
  have HU := fun w => Lib.hid (nunpack_any B (n : Int) w (by omega))
  have HC := fun w => Lib.hid (ncount_any B w (by omega))
  rw [hBs] at HC
  have HBAD := Lib.hid (nulD_bad h1 hn h2 hk hm hs hB)
  have HOK := Lib.hid (nulD_ok h1 hn h2 hk hm hs hB)
  have hon := ones_le (num B) (8 * m)
  generalize nulD s p = D at *
  generalize ones (num B) (8 * m) = O at *
  generalize upk B n = U at *
  obtain ⟨ub, uc⟩ := U
  simp only at HU HBAD HOK
  obtain ⟨hd, hd2, hw1, hq1, hq2, hw2, hd4, hd5, hl1, hl2, hl3, hl4, hw3⟩ := gn_facts (O := O) hn hm hs zs hon
  have hd3 : ((k : Int) == 0) = false := ieq_f (fun e => hk (Int.ofNat_eq_zero.1 e))
  clear h1 h2 hm hk hBs
  by_cases huc : uc = 0
  · subst huc
    by_cases hO : O = k
    · have HD := Lib.hid (HOK.out rfl hO)
      have hd6 : ((O : Int) != (k : Int)) = false := by rw [hO]; simp
      clear hO HOK HBAD
      go_enter Tryz.func56, Tryz.ntmps56
      go_wp2_with fail
      (with_reducible refine (HG _).out.mono ?_); rintro e w1 ⟨rfl, rfl⟩
      go_wp2_with fail
      (with_reducible refine (HG2 _).out.mono ?_); rintro e w1 ⟨rfl, rfl⟩
      go_wp2_with fail
      (with_reducible refine (HU _).out.mono ?_); rintro e w2 ⟨v, rfl, hown, hb2⟩
      have HRD := Lib.hid hown.read
      clear hown
      go_wp2_with fail
      (with_reducible refine (HC _).out.mono ?_); rintro e w3 ⟨rfl, rfl⟩
      go_wp2
      refine bodyPost_ret (v := .tuple #[v, .int .i64 ((r + m : Nat) : Int), .bool true]) (by simp [results, Tryz.results56, go_sem]) rfl ?_
      exact NuP.yes rfl HRD.out HD.out hb2
    · have HD := Lib.hid (HBAD.out (.inr hO))
      have hd6 : ((O : Int) != (k : Int)) = true := ine_t (by omega)
      clear hO HOK HBAD
      go_enter Tryz.func56, Tryz.ntmps56
      go_wp2_with fail
      (with_reducible refine (HG _).out.mono ?_); rintro e w1 ⟨rfl, rfl⟩
      go_wp2_with fail
      (with_reducible refine (HG2 _).out.mono ?_); rintro e w1 ⟨rfl, rfl⟩
      go_wp2_with fail
      (with_reducible refine (HU _).out.mono ?_); rintro e w2 ⟨v, rfl, hown, hb2⟩
      clear hown
      go_wp2_with fail
      (with_reducible refine (HC _).out.mono ?_); rintro e w3 ⟨rfl, rfl⟩
      go_wp2
      refine bodyPost_ret (v := .tuple #[.slice none 0 0, .int .i64 0, .bool false]) (by simp [results, Tryz.results56, go_sem]) rfl ?_
      exact NuP.no rfl HD.out hb2
  · have HD := Lib.hid (HBAD.out (.inl huc))
    have hd6 : ((uc : Int) != 0) = true := ine_t (by omega)
    clear huc HOK HBAD
    go_enter Tryz.func56, Tryz.ntmps56
    go_wp2_with fail
    (with_reducible refine (HG _).out.mono ?_); rintro e w1 ⟨rfl, rfl⟩
    go_wp2_with fail
    (with_reducible refine (HG2 _).out.mono ?_); rintro e w1 ⟨rfl, rfl⟩
    go_wp2_with fail
    (with_reducible refine (HU _).out.mono ?_); rintro e w2 ⟨v, rfl, hown, hb2⟩
    clear hown
    go_wp2
    refine bodyPost_ret (v := .tuple #[.slice none 0 0, .int .i64 0, .bool false]) (by simp [results, Tryz.results56, go_sem]) rfl ?_
    exact NuP.no rfl HD.out hb2
end
theorem getNul_any : Calls Tryz.prog 56 #[.string s, .int .i64 p] W (NuP (nulD s p) W) := by
  obtain ⟨n, q, e, h1⟩ : ∃ n q e, getR s p = (n, q, e) := ⟨_, _, _, rfl⟩
  by_cases he : e = 0
  · subst he
    by_cases hn : n ≤ 4096
    · obtain ⟨k, q2, e2, h2⟩ : ∃ k q2 e2, getR s q = (k, q2, e2) := ⟨_, _, _, rfl⟩
      by_cases he2 : e2 = 0
      · subst he2
        obtain ⟨x, y, -, rfl, -, hxy, -, -⟩ := getR_zero h2
        have h2' : getR s q = (k, ((x + y : Nat) : Int), 0) := by rw [h2]; push_cast; rfl
        by_cases hk : k = 0
        · subst hk
          exact getNul_zero s p W zs h1 hn h2'
        · by_cases hs : s.size < x + y + (n + 7) / 8
          · exact getNul_short s p W zs h1 hn h2' hk rfl hxy hs
          · exact getNul_map s p W zs h1 hn h2' hk rfl hxy (by omega)
      · exact getNul_e2 s p W zs h1 hn h2 he2
    · exact getNul_e s p W zs h1 (.inr (by omega)) (nulD_big h1 (by omega))
  · exact getNul_e s p W zs h1 (.inl he) (nulD_e h1 he)
end
end Go.Proofs.YtbolbbngncnecaaGreat
