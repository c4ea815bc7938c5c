/- The text of a schema: the reference's Number (below 100) and FormatSchema. -/
import Derived.Test.YtfkdenlpailmeaaDoorSchP
import Derived.Test.YtfkdenlpailmeaaDoorSchW4
namespace Go.SC
open Go.RowKit Go.VB Go.VL
/-- The lines of columns. -/
def txC (cs : List Col) : List UInt8 := cs.flatMap fun c => colL c ++ [10]
/-- The text of a valid schema. -/
def fmtL (cs : List Col) (key : Int) : List UInt8 := txC cs ++ (keyL ++ 32 :: ((cs.getD key.toNat col0).nm.data.toList ++ [10]))
/-- What Format returns. -/
def FT (cs : List Col) (key : Int) : ByteArray := if chkS cs key = 0 then str (fmtL cs key) else ⟨#[]⟩
theorem FT_bad {cs : List Col} {key : Int} (h : ¬ chkS cs key = 0) : FT cs key = ⟨#[]⟩ := if_neg h
theorem FT_ok {cs : List Col} {key : Int} (h : chkS cs key = 0) : FT cs key = str (fmtL cs key) := if_pos h
theorem txC_snoc {cs : List Col} {i : Nat} (h : i < cs.length) : txC (cs.take (i + 1)) = txC (cs.take i) ++ (colL (cs.getD i col0) ++ [10]) := by
  unfold txC
  rw [List.take_add_one, List.getD_eq_getElem?_getD, List.getElem?_eq_getElem h, List.flatMap_append]
  show _ ++ List.flatMap _ [cs[i]] = _
  rw [List.flatMap_singleton]
  rfl
/-- What holds of a column of a valid schema. -/
structure CV (c : Col) : Prop where
  name : nameS c.nm = true
  ty : okT c.ty = true
  sc0 : 0 ≤ c.sc
  sc18 : c.sc ≤ 18
  sc5 : c.ty ≠ 5 → c.sc = 0
theorem cv_of {cs : List Col} {key : Int} (h : chkS cs key = 0) {i : Nat} (hi : i < cs.length) : CV (cs.getD i col0) := by
  obtain ⟨_, _, h3, _, _⟩ := chkS_ok h
  obtain ⟨a, _, b, c, d, e⟩ := chkCol_ok (h3 i hi)
  exact ⟨a, b, c, d, e⟩
theorem CV.nm_size {c : Col} (h : CV c) : 1 ≤ c.nm.size ∧ c.nm.size ≤ 16 := ⟨(nameS_ok h.name).1.1, (nameS_ok h.name).1.2.1⟩
theorem twL_len {ty : Int} (h : okT ty = true) : (twL ty).length ≤ 7 := by
  rcases okT_five h with rfl | rfl | rfl | rfl | rfl <;> decide
theorem colL_len {c : Col} (h : CV c) : (colL c).length ≤ 39 := by
  have h1 := h.nm_size.2
  have h2 := twL_len h.ty
  have h3 := scL_len (n := c.sc.toNat) (by have := h.sc18; omega)
  have h4 : (typL c.ty c.sc).length ≤ 10 := by
    unfold typL
    rw [List.length_append]
    split
    · rw [List.length_cons]; omega
    · simp; omega
  have h5 : (nulL c.nu).length ≤ 5 := by unfold nulL; split <;> decide
  have h6 : c.nm.data.toList.length = c.nm.size := size_list _
  unfold colL
  simp only [List.length_append, List.length_cons]
  omega
theorem txC_len {cs : List Col} {key : Int} (h : chkS cs key = 0) : ∀ i, i ≤ cs.length → (txC (cs.take i)).length ≤ 40 * i
  | 0, _ => by simp [txC]
  | i + 1, hi => by
    have h1 := txC_len h i (by omega)
    have h2 := colL_len (cv_of h (i := i) (by omega))
    rw [txC_snoc (by omega), List.length_append, List.length_append, List.length_singleton]
    omega
theorem scL_small {n : Nat} (h : n < 10) : scL n = [UInt8.ofNat (48 + n)] := by unfold scL; rw [if_pos h]
theorem scL_big {n : Nat} (h : ¬ n < 10) : scL n = [UInt8.ofNat (48 + n / 10), UInt8.ofNat (48 + n % 10)] := by unfold scL; rw [if_neg h]
theorem dig_cut : ∀ n : Fin 10, (⟨#[48, 49, 50, 51, 52, 53, 54, 55, 56, 57]⟩ : ByteArray).extract n.val (n.val + 1) = str [UInt8.ofNat (48 + n.val)] := by decide +kernel
theorem dig_cut1 (n : Nat) (h : n < 10) : (⟨#[48, 49, 50, 51, 52, 53, 54, 55, 56, 57]⟩ : ByteArray).extract n (n + 1) = str [UInt8.ofNat (48 + n)] := dig_cut ⟨n, h⟩
/-- Two texts put together. -/
theorem add_str {P : Program} (a b : List UInt8) (h : a.length + b.length ≤ 1000000) : ∀ w, (Op.stringOp .add (str a) (str b)).run P w = .ok (.string (str (a ++ b))) w := fun w => by
  rw [run_string_add_sum w (str a) (str b) (by rw [str_size, str_size]; omega), str_append]
end Go.SC
namespace Go.Proofs.YtfkdenlpailmeaaDoor
open Go.RowKit Go.VB Go.VL Go.SC
set_option linter.constructorNameAsVariable false
set_option maxRecDepth 100000 in
set_option maxHeartbeats 1000000 in
theorem num2_any (n : Nat) (w : World) (hn : n < 100) : Calls Tryd.prog 17 #[.int .i64 (n : Int)] w (Ret (.string (str (scL n))) w) := by
  by_cases h : n < 10
  · have HC := Lib.hid (dig_cut1 n h)
    rw [scL_small h]
    go_enter Tryd.func17, Tryd.ntmps17
    go_wp2
    go_ret
    exact Ret.mk (by rw [← HC.out]; rfl)
  · obtain ⟨a, ha⟩ : ∃ a, n / 10 = a := ⟨_, rfl⟩
    obtain ⟨b, hb⟩ : ∃ b, n % 10 = b := ⟨_, rfl⟩
    have hn2 : n = a * 10 + b := by omega
    have hb9 : b < 10 := by omega
    have ha9 : a < 10 := by omega
    have ha1 : 1 ≤ a := by omega
    have HC1 := dig_cut1 a ha9
    have HC2 := dig_cut1 b hb9
    have hadd := add_str (P := Tryd.prog) [UInt8.ofNat (48 + a)] [UInt8.ofNat (48 + b)] (by simp)
    have hadd0 := add_str (P := Tryd.prog) [UInt8.ofNat (48 + b)] [] (by simp)
    rw [scL_big h, ha, hb]
    rw [show ([UInt8.ofNat (48 + a)] ++ [UInt8.ofNat (48 + b)] : List UInt8) = [UInt8.ofNat (48 + a), UInt8.ofNat (48 + b)] from rfl] at hadd
    rw [List.append_nil, show str [] = ⟨#[]⟩ from rfl] at hadd0
    clear ha hb
    generalize str [UInt8.ofNat (48 + a), UInt8.ofNat (48 + b)] = R at *
    generalize hX : str [UInt8.ofNat (48 + a)] = X at *
    generalize hY : str [UInt8.ofNat (48 + b)] = Y at *
    have HYs : Hid (Y.size = 1) := Lib.hid (by rw [← hY]; rfl)
    have HN2 := Lib.hid hn2
    clear hn2
    have HRs : Hid (∀ w, (Op.stringOp .add X Y).run Tryd.prog w = .ok (.string R) w) := Lib.hid hadd
    clear hX hY hadd
    go_enter Tryd.func17, Tryd.ntmps17
    go_wp2
    go_loop [0, 3] (fun x s => ∃ j : Nat, j ≤ 2 ∧ x = .int .i64 (if j = 0 then (n : Int) else if j = 1 then (a : Int) else 0) ∧ s = .string (if j = 0 then ⟨#[]⟩ else if j = 1 then Y else R)) (fun x _ => (intOf x).toNat)
    case atStart => exact ⟨0, by omega, rfl, rfl⟩
    case round =>
      obtain ⟨j, hj, rfl, rfl⟩ := hrel
      by_cases j0 : j = 0
      · subst j0
        simp only [if_true]
        have hn2 := HN2.out
        have hne : ((n : Int) != 0) = true := ine_t (by omega)
        have hm : (n : Int).tmod 10 = (b : Int) := by rw [Int.tmod_eq_emod_of_nonneg (by omega)]; omega
        have hd : (n : Int).tdiv 10 = (a : Int) := by rw [Int.tdiv_eq_ediv_of_nonneg (by omega)]; omega
        have hm2 : (n : Int) % 10 = (b : Int) := by omega
        have hd2 : (n : Int) / 10 = (a : Int) := by omega
        have hb0 : decide ((b : Int) < 0) = false := decide_eq_false (by omega)
        have hlt : a < n := by omega
        clear hn2 HN2 HRs
        go_wp2
        exact ⟨⟨1, by omega, by simp, by simp⟩, by show ((a : Int)).toNat < ((n : Int)).toNat; omega⟩
      · by_cases j1 : j = 1
        · subst j1
          simp only [if_neg (show ¬ (1 : Nat) = 0 by decide), if_true]
          have hne : ((a : Int) != 0) = true := ine_t (by omega)
          have hm : (a : Int).tmod 10 = (a : Int) := by rw [Int.tmod_eq_emod_of_nonneg (by omega)]; omega
          have hd : (a : Int).tdiv 10 = 0 := by rw [Int.tdiv_eq_ediv_of_nonneg (by omega)]; omega
          have hm2 : (a : Int) % 10 = (a : Int) := by omega
          have hd2 : (a : Int) / 10 = 0 := by omega
          have hb0 : decide ((a : Int) < 0) = false := decide_eq_false (by omega)
          have hadd := HRs.out
          clear HN2 HRs h hn
          go_wp2
          exact ⟨⟨2, by omega, by simp, by simp⟩, by show ((0 : Int)).toNat < ((a : Int)).toNat; omega⟩
        · rw [if_neg j0, if_neg j1, if_neg j0, if_neg j1]
          clear HN2 HRs j0 j1 hj hadd0
          go_wp2
          go_ret
          exact Ret.mk rfl
set_option maxRecDepth 100000 in
set_option maxHeartbeats 16000000 in
theorem rformat_any (cs : List Col) (v : Value) (key : Int) (W : World) (hr : RdC W W.heap.size v cs) :
    Calls Tryd.prog 25 #[.agg #[v, .int .i64 key]] W (RetB (.tuple #[.string (FT cs key), .int .i64 (chkS cs key : Nat)]) W) := by
  have hV2 := Var2.new W v (.int .i64 key) 24
  have hB0 : Below W.heap.size W (W.alloc (.cells #[v, .int .i64 key] 24)) := (Below.refl _ _).alloc (Nat.le_refl _) _
  have hHC := Lib.hid (rcheck_any cs v key _ (hr.below hB0 |>.more hB0.size))
  obtain ⟨A, c, rfl, hc, hm, hrr⟩ := hr
  have hX : ∀ j, j < cs.length → ∃ ad, A = some ad ∧ ad.block < W.heap.size ∧ At4 W ad j (cs.getD j col0) := hrr
  clear hrr
  unfold maxLen at hm
  have HX := Lib.hid hX; clear hX
  by_cases he : chkS cs key = 0
  rotate_left
  · have hF := FT_bad he
    rw [hF]
    have hd : ((chkS cs key : Int) != 0) = true := ine_t (by omega)
    clear hF he HX
    generalize chkS cs key = E at *
    obtain ⟨l0, l1, _, _⟩ := hV2
    go_enter Tryd.func25, Tryd.ntmps25
    go_wp2_with fail
    refine hHC.out.mono ?_
    rintro e w1 ⟨rfl, hb1⟩
    go_wp2_with fail
    go_ret2
    exact RetB.mk rfl (bel_trans hB0 hb1)
  have hF := FT_ok he
  have HCV := fun i (hi : i < cs.length) => Lib.hid (cv_of he hi)
  have HLEN := Lib.hid (txC_len he)
  obtain ⟨hne, h12, _, hk0, hk1⟩ := chkS_ok he
  have HF := Lib.hid hF
  have HE0 := Lib.hid he
  rw [he] at hHC
  clear hF he
  obtain ⟨l0, l1, _, _⟩ := id hV2
  go_enter Tryd.func25, Tryd.ntmps25
  go_wp2_with fail
  refine hHC.out.mono ?_
  rintro e w1 ⟨rfl, hb1⟩
  have hB1 := bel_trans hB0 hb1
  have hV1 := hV2.step hb1
  clear l0 l1 hB0 hV2 hHC hb1
  obtain ⟨l0, l1, _, _⟩ := id hV1
  go_wp2_with fail
  clear l0 l1
  go_loopw [5, 7, 16] (fun t _ j wr => ∃ k : Nat, t = .string (str (txC (cs.take k))) ∧ j = .int .i64 k ∧ k ≤ cs.length ∧ Below W.heap.size W wr ∧ Hid (Var2 wr W.heap.size (.slice A cs.length c) (.int .i64 key))) (fun _ _ j _ => cs.length - (intOf j).toNat)
  case atStart => exact ⟨0, rfl, rfl, Nat.zero_le _, hB1, Lib.hid hV1⟩
  case round =>
    clear hB1 hV1
    obtain ⟨k, rfl, rfl, hk, hB, HVw⟩ := hrel
    have hTl := HLEN.out k hk
    by_cases hlt : k < cs.length
    · obtain ⟨ad, rfl, hab, hat⟩ := HX.out k hlt
      obtain ⟨q0, q1, q2, q3⟩ := hat.below hB hab
      have hcv := (HCV k hlt).out
      have HTX := Lib.hid (txC_snoc hlt)
      clear HX HCV HLEN HF HE0 hat
      generalize cs.getD k col0 = C at *
      obtain ⟨NM, ty, sc, nu⟩ := C
      obtain ⟨hnm1, hnm2⟩ := hcv.nm_size
      obtain ⟨_, hty, hsc0, hsc18, hsc5⟩ := hcv
      simp only at hnm1 hnm2 hty hsc0 hsc18 hsc5 q0 q1 q2 q3
      have hT : (txC (cs.take k)).length ≤ 480 := by omega
      obtain ⟨nmL, hnmL0⟩ : ∃ l : List UInt8, l = NM.data.toList := ⟨_, rfl⟩
      have hnl : nmL.length ≤ 16 := by rw [hnmL0, size_list]; exact hnm2
      have HNMl := Lib.hid (show str nmL = NM from by rw [hnmL0]; rfl)
      have HNM0 := Lib.hid hnmL0.symm
      clear hnmL0
      have HB := fun o => Lib.hid (show Below W.heap.size W (wr.alloc o) from hB.alloc hB.size o)
      have HVS := fun o => Lib.hid (HVw.out.step ((Below.refl _ _).alloc (Nat.le_refl _) o))
      clear hTl hB HVw hnm1 hnm2
      generalize txC (cs.take k) = T at *
      rcases okT_five hty with rfl | rfl | rfl | rfl | rfl
      all_goals clear hty
      · obtain rfl : sc = 0 := hsc5 (by decide)
        clear hsc5 hsc0 hsc18
        cases nu with
        | false =>
          have e1 := add_str (P := Tryd.prog) T nmL (by omega)
          have e2 := add_str (P := Tryd.prog) (T ++ nmL) [32, 105, 110, 116] (by simp; omega)
          rw [show str [32, 105, 110, 116] = ⟨#[32, 105, 110, 116]⟩ from rfl] at e2
          generalize hT2 : (T ++ nmL) ++ [32, 105, 110, 116] = T2 at *
          have hl2 : T2.length ≤ 990000 := by rw [← hT2]; simp only [List.length_append, List.length_cons, List.length_nil]; omega
          obtain ⟨T3, hT3⟩ : ∃ T3, T2 = T3 := ⟨_, rfl⟩
          have hl3 : T3.length ≤ 995000 := by rw [← hT3]; omega
          rw [hT3] at e2
          have e4 := add_str (P := Tryd.prog) T3 [10] (by simp; omega)
          rw [show str [10] = ⟨#[10]⟩ from rfl] at e4
          have HEND : Hid (str (T3 ++ [10]) = str (txC (cs.take (k + 1)))) := Lib.hid (by
            rw [HTX.out, ← hT3, ← hT2]
            congr 1
            unfold colL typL nulL
            simp only [if_neg (show ¬ (1 : Int) = 5 by decide), Bool.false_eq_true, if_false, List.append_nil, List.append_assoc, List.cons_append, List.nil_append, nullL]
            rw [HNM0.out]
            rfl)
          clear hT3 hT2  hl2 hl3 hT HTX


          generalize str (T3 ++ [10]) = ST4 at *
          generalize str T3 = ST3 at *

          generalize str (T ++ nmL) = ST1 at *
          generalize str T = ST0 at *
          have hnmL := HNMl.out
          rw [hnmL] at e1
          clear hnmL
          go_wp2_with fail
          go_roundw
          case rel => exact ⟨k + 1, by rw [HEND.out], by go_num, hlt, (HB _).out, HVS _⟩
          case measure => simp [intOf] <;> omega
        | true =>
          have e1 := add_str (P := Tryd.prog) T nmL (by omega)
          have e2 := add_str (P := Tryd.prog) (T ++ nmL) [32, 105, 110, 116] (by simp; omega)
          rw [show str [32, 105, 110, 116] = ⟨#[32, 105, 110, 116]⟩ from rfl] at e2
          generalize hT2 : (T ++ nmL) ++ [32, 105, 110, 116] = T2 at *
          have hl2 : T2.length ≤ 990000 := by rw [← hT2]; simp only [List.length_append, List.length_cons, List.length_nil]; omega
          have e3 := add_str (P := Tryd.prog) T2 [32, 110, 117, 108, 108] (by simp; omega)
          rw [show str [32, 110, 117, 108, 108] = ⟨#[32, 110, 117, 108, 108]⟩ from rfl] at e3
          generalize hT3 : T2 ++ [32, 110, 117, 108, 108] = T3 at *
          have hl3 : T3.length ≤ 995000 := by rw [← hT3]; simp only [List.length_append, List.length_cons, List.length_nil]; omega
          have e4 := add_str (P := Tryd.prog) T3 [10] (by simp; omega)
          rw [show str [10] = ⟨#[10]⟩ from rfl] at e4
          have HEND : Hid (str (T3 ++ [10]) = str (txC (cs.take (k + 1)))) := Lib.hid (by
            rw [HTX.out, ← hT3, ← hT2]
            congr 1
            unfold colL typL nulL
            simp only [if_neg (show ¬ (1 : Int) = 5 by decide), if_true, List.append_nil, List.append_assoc, List.cons_append, List.nil_append, nullL]
            rw [HNM0.out]
            rfl)
          clear hT3 hT2  hl2 hl3 hT HTX


          generalize str (T3 ++ [10]) = ST4 at *
          generalize str T3 = ST3 at *
          generalize str T2 = ST2 at *
          generalize str (T ++ nmL) = ST1 at *
          generalize str T = ST0 at *
          have hnmL := HNMl.out
          rw [hnmL] at e1
          clear hnmL
          go_wp2_with fail
          go_roundw
          case rel => exact ⟨k + 1, by rw [HEND.out], by go_num, hlt, (HB _).out, HVS _⟩
          case measure => simp [intOf] <;> omega
      · obtain rfl : sc = 0 := hsc5 (by decide)
        clear hsc5 hsc0 hsc18
        cases nu with
        | false =>
          have e1 := add_str (P := Tryd.prog) T nmL (by omega)
          have e2 := add_str (P := Tryd.prog) (T ++ nmL) [32, 98, 111, 111, 108] (by simp; omega)
          rw [show str [32, 98, 111, 111, 108] = ⟨#[32, 98, 111, 111, 108]⟩ from rfl] at e2
          generalize hT2 : (T ++ nmL) ++ [32, 98, 111, 111, 108] = T2 at *
          have hl2 : T2.length ≤ 990000 := by rw [← hT2]; simp only [List.length_append, List.length_cons, List.length_nil]; omega
          obtain ⟨T3, hT3⟩ : ∃ T3, T2 = T3 := ⟨_, rfl⟩
          have hl3 : T3.length ≤ 995000 := by rw [← hT3]; omega
          rw [hT3] at e2
          have e4 := add_str (P := Tryd.prog) T3 [10] (by simp; omega)
          rw [show str [10] = ⟨#[10]⟩ from rfl] at e4
          have HEND : Hid (str (T3 ++ [10]) = str (txC (cs.take (k + 1)))) := Lib.hid (by
            rw [HTX.out, ← hT3, ← hT2]
            congr 1
            unfold colL typL nulL
            simp only [if_neg (show ¬ (2 : Int) = 5 by decide), Bool.false_eq_true, if_false, List.append_nil, List.append_assoc, List.cons_append, List.nil_append, nullL]
            rw [HNM0.out]
            rfl)
          clear hT3 hT2  hl2 hl3 hT HTX


          generalize str (T3 ++ [10]) = ST4 at *
          generalize str T3 = ST3 at *

          generalize str (T ++ nmL) = ST1 at *
          generalize str T = ST0 at *
          have hnmL := HNMl.out
          rw [hnmL] at e1
          clear hnmL
          go_wp2_with fail
          go_roundw
          case rel => exact ⟨k + 1, by rw [HEND.out], by go_num, hlt, (HB _).out, HVS _⟩
          case measure => simp [intOf] <;> omega
        | true =>
          have e1 := add_str (P := Tryd.prog) T nmL (by omega)
          have e2 := add_str (P := Tryd.prog) (T ++ nmL) [32, 98, 111, 111, 108] (by simp; omega)
          rw [show str [32, 98, 111, 111, 108] = ⟨#[32, 98, 111, 111, 108]⟩ from rfl] at e2
          generalize hT2 : (T ++ nmL) ++ [32, 98, 111, 111, 108] = T2 at *
          have hl2 : T2.length ≤ 990000 := by rw [← hT2]; simp only [List.length_append, List.length_cons, List.length_nil]; omega
          have e3 := add_str (P := Tryd.prog) T2 [32, 110, 117, 108, 108] (by simp; omega)
          rw [show str [32, 110, 117, 108, 108] = ⟨#[32, 110, 117, 108, 108]⟩ from rfl] at e3
          generalize hT3 : T2 ++ [32, 110, 117, 108, 108] = T3 at *
          have hl3 : T3.length ≤ 995000 := by rw [← hT3]; simp only [List.length_append, List.length_cons, List.length_nil]; omega
          have e4 := add_str (P := Tryd.prog) T3 [10] (by simp; omega)
          rw [show str [10] = ⟨#[10]⟩ from rfl] at e4
          have HEND : Hid (str (T3 ++ [10]) = str (txC (cs.take (k + 1)))) := Lib.hid (by
            rw [HTX.out, ← hT3, ← hT2]
            congr 1
            unfold colL typL nulL
            simp only [if_neg (show ¬ (2 : Int) = 5 by decide), if_true, List.append_nil, List.append_assoc, List.cons_append, List.nil_append, nullL]
            rw [HNM0.out]
            rfl)
          clear hT3 hT2  hl2 hl3 hT HTX


          generalize str (T3 ++ [10]) = ST4 at *
          generalize str T3 = ST3 at *
          generalize str T2 = ST2 at *
          generalize str (T ++ nmL) = ST1 at *
          generalize str T = ST0 at *
          have hnmL := HNMl.out
          rw [hnmL] at e1
          clear hnmL
          go_wp2_with fail
          go_roundw
          case rel => exact ⟨k + 1, by rw [HEND.out], by go_num, hlt, (HB _).out, HVS _⟩
          case measure => simp [intOf] <;> omega
      · obtain rfl : sc = 0 := hsc5 (by decide)
        clear hsc5 hsc0 hsc18
        cases nu with
        | false =>
          have e1 := add_str (P := Tryd.prog) T nmL (by omega)
          have e2 := add_str (P := Tryd.prog) (T ++ nmL) [32, 98, 121, 116, 101, 115] (by simp; omega)
          rw [show str [32, 98, 121, 116, 101, 115] = ⟨#[32, 98, 121, 116, 101, 115]⟩ from rfl] at e2
          generalize hT2 : (T ++ nmL) ++ [32, 98, 121, 116, 101, 115] = T2 at *
          have hl2 : T2.length ≤ 990000 := by rw [← hT2]; simp only [List.length_append, List.length_cons, List.length_nil]; omega
          obtain ⟨T3, hT3⟩ : ∃ T3, T2 = T3 := ⟨_, rfl⟩
          have hl3 : T3.length ≤ 995000 := by rw [← hT3]; omega
          rw [hT3] at e2
          have e4 := add_str (P := Tryd.prog) T3 [10] (by simp; omega)
          rw [show str [10] = ⟨#[10]⟩ from rfl] at e4
          have HEND : Hid (str (T3 ++ [10]) = str (txC (cs.take (k + 1)))) := Lib.hid (by
            rw [HTX.out, ← hT3, ← hT2]
            congr 1
            unfold colL typL nulL
            simp only [if_neg (show ¬ (3 : Int) = 5 by decide), Bool.false_eq_true, if_false, List.append_nil, List.append_assoc, List.cons_append, List.nil_append, nullL]
            rw [HNM0.out]
            rfl)
          clear hT3 hT2  hl2 hl3 hT HTX


          generalize str (T3 ++ [10]) = ST4 at *
          generalize str T3 = ST3 at *

          generalize str (T ++ nmL) = ST1 at *
          generalize str T = ST0 at *
          have hnmL := HNMl.out
          rw [hnmL] at e1
          clear hnmL
          go_wp2_with fail
          go_roundw
          case rel => exact ⟨k + 1, by rw [HEND.out], by go_num, hlt, (HB _).out, HVS _⟩
          case measure => simp [intOf] <;> omega
        | true =>
          have e1 := add_str (P := Tryd.prog) T nmL (by omega)
          have e2 := add_str (P := Tryd.prog) (T ++ nmL) [32, 98, 121, 116, 101, 115] (by simp; omega)
          rw [show str [32, 98, 121, 116, 101, 115] = ⟨#[32, 98, 121, 116, 101, 115]⟩ from rfl] at e2
          generalize hT2 : (T ++ nmL) ++ [32, 98, 121, 116, 101, 115] = T2 at *
          have hl2 : T2.length ≤ 990000 := by rw [← hT2]; simp only [List.length_append, List.length_cons, List.length_nil]; omega
          have e3 := add_str (P := Tryd.prog) T2 [32, 110, 117, 108, 108] (by simp; omega)
          rw [show str [32, 110, 117, 108, 108] = ⟨#[32, 110, 117, 108, 108]⟩ from rfl] at e3
          generalize hT3 : T2 ++ [32, 110, 117, 108, 108] = T3 at *
          have hl3 : T3.length ≤ 995000 := by rw [← hT3]; simp only [List.length_append, List.length_cons, List.length_nil]; omega
          have e4 := add_str (P := Tryd.prog) T3 [10] (by simp; omega)
          rw [show str [10] = ⟨#[10]⟩ from rfl] at e4
          have HEND : Hid (str (T3 ++ [10]) = str (txC (cs.take (k + 1)))) := Lib.hid (by
            rw [HTX.out, ← hT3, ← hT2]
            congr 1
            unfold colL typL nulL
            simp only [if_neg (show ¬ (3 : Int) = 5 by decide), if_true, List.append_nil, List.append_assoc, List.cons_append, List.nil_append, nullL]
            rw [HNM0.out]
            rfl)
          clear hT3 hT2  hl2 hl3 hT HTX


          generalize str (T3 ++ [10]) = ST4 at *
          generalize str T3 = ST3 at *
          generalize str T2 = ST2 at *
          generalize str (T ++ nmL) = ST1 at *
          generalize str T = ST0 at *
          have hnmL := HNMl.out
          rw [hnmL] at e1
          clear hnmL
          go_wp2_with fail
          go_roundw
          case rel => exact ⟨k + 1, by rw [HEND.out], by go_num, hlt, (HB _).out, HVS _⟩
          case measure => simp [intOf] <;> omega
      · obtain rfl : sc = 0 := hsc5 (by decide)
        clear hsc5 hsc0 hsc18
        cases nu with
        | false =>
          have e1 := add_str (P := Tryd.prog) T nmL (by omega)
          have e2 := add_str (P := Tryd.prog) (T ++ nmL) [32, 100, 97, 116, 101] (by simp; omega)
          rw [show str [32, 100, 97, 116, 101] = ⟨#[32, 100, 97, 116, 101]⟩ from rfl] at e2
          generalize hT2 : (T ++ nmL) ++ [32, 100, 97, 116, 101] = T2 at *
          have hl2 : T2.length ≤ 990000 := by rw [← hT2]; simp only [List.length_append, List.length_cons, List.length_nil]; omega
          obtain ⟨T3, hT3⟩ : ∃ T3, T2 = T3 := ⟨_, rfl⟩
          have hl3 : T3.length ≤ 995000 := by rw [← hT3]; omega
          rw [hT3] at e2
          have e4 := add_str (P := Tryd.prog) T3 [10] (by simp; omega)
          rw [show str [10] = ⟨#[10]⟩ from rfl] at e4
          have HEND : Hid (str (T3 ++ [10]) = str (txC (cs.take (k + 1)))) := Lib.hid (by
            rw [HTX.out, ← hT3, ← hT2]
            congr 1
            unfold colL typL nulL
            simp only [if_neg (show ¬ (4 : Int) = 5 by decide), Bool.false_eq_true, if_false, List.append_nil, List.append_assoc, List.cons_append, List.nil_append, nullL]
            rw [HNM0.out]
            rfl)
          clear hT3 hT2  hl2 hl3 hT HTX


          generalize str (T3 ++ [10]) = ST4 at *
          generalize str T3 = ST3 at *

          generalize str (T ++ nmL) = ST1 at *
          generalize str T = ST0 at *
          have hnmL := HNMl.out
          rw [hnmL] at e1
          clear hnmL
          go_wp2_with fail
          go_roundw
          case rel => exact ⟨k + 1, by rw [HEND.out], by go_num, hlt, (HB _).out, HVS _⟩
          case measure => simp [intOf] <;> omega
        | true =>
          have e1 := add_str (P := Tryd.prog) T nmL (by omega)
          have e2 := add_str (P := Tryd.prog) (T ++ nmL) [32, 100, 97, 116, 101] (by simp; omega)
          rw [show str [32, 100, 97, 116, 101] = ⟨#[32, 100, 97, 116, 101]⟩ from rfl] at e2
          generalize hT2 : (T ++ nmL) ++ [32, 100, 97, 116, 101] = T2 at *
          have hl2 : T2.length ≤ 990000 := by rw [← hT2]; simp only [List.length_append, List.length_cons, List.length_nil]; omega
          have e3 := add_str (P := Tryd.prog) T2 [32, 110, 117, 108, 108] (by simp; omega)
          rw [show str [32, 110, 117, 108, 108] = ⟨#[32, 110, 117, 108, 108]⟩ from rfl] at e3
          generalize hT3 : T2 ++ [32, 110, 117, 108, 108] = T3 at *
          have hl3 : T3.length ≤ 995000 := by rw [← hT3]; simp only [List.length_append, List.length_cons, List.length_nil]; omega
          have e4 := add_str (P := Tryd.prog) T3 [10] (by simp; omega)
          rw [show str [10] = ⟨#[10]⟩ from rfl] at e4
          have HEND : Hid (str (T3 ++ [10]) = str (txC (cs.take (k + 1)))) := Lib.hid (by
            rw [HTX.out, ← hT3, ← hT2]
            congr 1
            unfold colL typL nulL
            simp only [if_neg (show ¬ (4 : Int) = 5 by decide), if_true, List.append_nil, List.append_assoc, List.cons_append, List.nil_append, nullL]
            rw [HNM0.out]
            rfl)
          clear hT3 hT2  hl2 hl3 hT HTX


          generalize str (T3 ++ [10]) = ST4 at *
          generalize str T3 = ST3 at *
          generalize str T2 = ST2 at *
          generalize str (T ++ nmL) = ST1 at *
          generalize str T = ST0 at *
          have hnmL := HNMl.out
          rw [hnmL] at e1
          clear hnmL
          go_wp2_with fail
          go_roundw
          case rel => exact ⟨k + 1, by rw [HEND.out], by go_num, hlt, (HB _).out, HVS _⟩
          case measure => simp [intOf] <;> omega
      · obtain ⟨n, rfl⟩ : ∃ n : Nat, sc = (n : Int) := ⟨sc.toNat, by omega⟩
        have hn100 : n < 100 := by omega
        clear hsc5 hsc0 hsc18
        cases nu with
        | false =>
          have e1 := add_str (P := Tryd.prog) T nmL (by omega)
          have e0 := add_str (P := Tryd.prog) [32, 100, 101, 99, 105, 109, 97, 108, 32] (scL n) (by have := (scL_len hn100).2; simp; omega)
          have e2 := add_str (P := Tryd.prog) (T ++ nmL) ([32, 100, 101, 99, 105, 109, 97, 108, 32] ++ scL n) (by have := (scL_len hn100).2; simp; omega)
          rw [show str [32, 100, 101, 99, 105, 109, 97, 108, 32] = ⟨#[32, 100, 101, 99, 105, 109, 97, 108, 32]⟩ from rfl] at e0
          have hln := (scL_len hn100).2
          have HNum := fun w => Lib.hid (num2_any n w hn100)
          generalize hT2 : (T ++ nmL) ++ ([32, 100, 101, 99, 105, 109, 97, 108, 32] ++ scL n) = T2 at *
          generalize hD0 : [32, 100, 101, 99, 105, 109, 97, 108, 32] ++ scL n = D0 at *
          have hl2 : T2.length ≤ 990000 := by rw [← hT2, ← hD0]; simp only [List.length_append, List.length_cons, List.length_nil]; omega
          obtain ⟨T3, hT3⟩ : ∃ T3, T2 = T3 := ⟨_, rfl⟩
          have hl3 : T3.length ≤ 995000 := by rw [← hT3]; omega
          rw [hT3] at e2
          have e4 := add_str (P := Tryd.prog) T3 [10] (by simp; omega)
          rw [show str [10] = ⟨#[10]⟩ from rfl] at e4
          have HEND : Hid (str (T3 ++ [10]) = str (txC (cs.take (k + 1)))) := Lib.hid (by
            rw [HTX.out, ← hT3, ← hT2, ← hD0]
            congr 1
            unfold colL typL nulL
            simp only [if_true, Int.toNat_natCast, Bool.false_eq_true, if_false, List.append_nil, List.append_assoc, List.cons_append, List.nil_append, nullL]
            rw [HNM0.out]
            rfl)
          clear hT3 hT2 hD0 hln hl2 hl3 hT HTX
          generalize str (scL n) = SN at *
          generalize str D0 = SD at *
          generalize str (T3 ++ [10]) = ST4 at *
          generalize str T3 = ST3 at *

          generalize str (T ++ nmL) = ST1 at *
          generalize str T = ST0 at *
          have hnmL := HNMl.out
          rw [hnmL] at e1
          clear hnmL
          go_wp2_with fail
          refine (HNum _).out.mono ?_
          rintro e w' ⟨rfl, rfl⟩
          go_wp2_with fail
          go_roundw
          case rel => exact ⟨k + 1, by rw [HEND.out], by go_num, hlt, (HB _).out, HVS _⟩
          case measure => simp [intOf] <;> omega
        | true =>
          have e1 := add_str (P := Tryd.prog) T nmL (by omega)
          have e0 := add_str (P := Tryd.prog) [32, 100, 101, 99, 105, 109, 97, 108, 32] (scL n) (by have := (scL_len hn100).2; simp; omega)
          have e2 := add_str (P := Tryd.prog) (T ++ nmL) ([32, 100, 101, 99, 105, 109, 97, 108, 32] ++ scL n) (by have := (scL_len hn100).2; simp; omega)
          rw [show str [32, 100, 101, 99, 105, 109, 97, 108, 32] = ⟨#[32, 100, 101, 99, 105, 109, 97, 108, 32]⟩ from rfl] at e0
          have hln := (scL_len hn100).2
          have HNum := fun w => Lib.hid (num2_any n w hn100)
          generalize hT2 : (T ++ nmL) ++ ([32, 100, 101, 99, 105, 109, 97, 108, 32] ++ scL n) = T2 at *
          generalize hD0 : [32, 100, 101, 99, 105, 109, 97, 108, 32] ++ scL n = D0 at *
          have hl2 : T2.length ≤ 990000 := by rw [← hT2, ← hD0]; simp only [List.length_append, List.length_cons, List.length_nil]; omega
          have e3 := add_str (P := Tryd.prog) T2 [32, 110, 117, 108, 108] (by simp; omega)
          rw [show str [32, 110, 117, 108, 108] = ⟨#[32, 110, 117, 108, 108]⟩ from rfl] at e3
          generalize hT3 : T2 ++ [32, 110, 117, 108, 108] = T3 at *
          have hl3 : T3.length ≤ 995000 := by rw [← hT3]; simp only [List.length_append, List.length_cons, List.length_nil]; omega
          have e4 := add_str (P := Tryd.prog) T3 [10] (by simp; omega)
          rw [show str [10] = ⟨#[10]⟩ from rfl] at e4
          have HEND : Hid (str (T3 ++ [10]) = str (txC (cs.take (k + 1)))) := Lib.hid (by
            rw [HTX.out, ← hT3, ← hT2, ← hD0]
            congr 1
            unfold colL typL nulL
            simp only [if_true, Int.toNat_natCast, List.append_assoc, List.cons_append, List.nil_append, nullL]
            rw [HNM0.out]
            rfl)
          clear hT3 hT2 hD0 hln hl2 hl3 hT HTX
          generalize str (scL n) = SN at *
          generalize str D0 = SD at *
          generalize str (T3 ++ [10]) = ST4 at *
          generalize str T3 = ST3 at *
          generalize str T2 = ST2 at *
          generalize str (T ++ nmL) = ST1 at *
          generalize str T = ST0 at *
          have hnmL := HNMl.out
          rw [hnmL] at e1
          clear hnmL
          go_wp2_with fail
          refine (HNum _).out.mono ?_
          rintro e w' ⟨rfl, rfl⟩
          go_wp2_with fail
          go_roundw
          case rel => exact ⟨k + 1, by rw [HEND.out], by go_num, hlt, (HB _).out, HVS _⟩
          case measure => simp [intOf] <;> omega
    · obtain rfl : k = cs.length := by omega
      obtain ⟨kn, rfl⟩ := Int.eq_ofNat_of_zero_le hk0
      have hkn : kn < cs.length := by omega
      obtain ⟨ad, rfl, hab, hat⟩ := HX.out kn hkn
      obtain ⟨q0, q1, q2, q3⟩ := hat.below hB hab
      have hnm := (HCV kn hkn).out.nm_size.2
      have HFT := HF
      obtain ⟨l0, l1, _, _⟩ := HVw.out
      have HFL : Hid (fmtL cs (kn : Int) = txC (cs.take cs.length) ++ [107, 101, 121, 32] ++ (cs.getD kn col0).nm.data.toList ++ [10]) := Lib.hid (by
        unfold fmtL
        rw [List.take_length, Int.toNat_natCast]
        simp [keyL])
      clear HX HCV HLEN HVw hat HF hlt
      generalize cs.getD kn col0 = C at *
      obtain ⟨NM, ty, sc, nu⟩ := C
      simp only at hnm q0
      obtain ⟨nmL, hnmL0⟩ : ∃ l : List UInt8, l = NM.data.toList := ⟨_, rfl⟩
      have hnl : nmL.length ≤ 16 := by rw [hnmL0, size_list]; exact hnm
      have HNMl := Lib.hid (show str nmL = NM from by rw [hnmL0]; rfl)
      have HFL2 : Hid (fmtL cs (kn : Int) = txC (cs.take cs.length) ++ [107, 101, 121, 32] ++ nmL ++ [10]) := Lib.hid (by rw [hnmL0]; exact HFL.out)
      clear hnmL0 HFL hnm
      have hT : (txC (cs.take cs.length)).length ≤ 480 := by omega
      generalize txC (cs.take cs.length) = T at *
      have e1 := add_str (P := Tryd.prog) T [107, 101, 121, 32] (by simp; omega)
      have e2 := add_str (P := Tryd.prog) (T ++ [107, 101, 121, 32]) nmL (by simp; omega)
      have e3 := add_str (P := Tryd.prog) (T ++ [107, 101, 121, 32] ++ nmL) [10] (by simp; omega)
      rw [show str [107, 101, 121, 32] = ⟨#[107, 101, 121, 32]⟩ from rfl] at e1
      rw [show str [10] = ⟨#[10]⟩ from rfl] at e3
      rw [HNMl.out] at e2
      have HRES : Hid (FT cs (kn : Int) = str (T ++ [107, 101, 121, 32] ++ nmL ++ [10])) := Lib.hid (by rw [HFT.out, HFL2.out])
      clear HFT HFL2 HNMl hT hTl q1 q2 q3
      generalize str (T ++ [107, 101, 121, 32] ++ nmL ++ [10]) = S3 at *
      generalize str (T ++ [107, 101, 121, 32] ++ nmL) = S2 at *
      generalize str (T ++ [107, 101, 121, 32]) = S1 at *
      generalize str T = S0 at *
      go_wp2_with fail
      go_ret2
      exact RetB.mk (by rw [HRES.out, HE0.out]; rfl) hB
end Go.Proofs.YtfkdenlpailmeaaDoor
