/- The walks over package decimal and its reference: what is permitted, rescaling, powers. -/
import Derived.Test.YtidlemedkjkmdaaDoorDec
import Derived.Test.YtidlemedkjkmdaaDoorKit
namespace Go.DC
theorem not3 {a b c : Prop} [Decidable a] [Decidable b] [Decidable c] (h : ¬ (a ∧ b ∧ c)) : decide a = false ∨ (decide a = true ∧ (decide b = false ∨ (decide b = true ∧ decide c = false))) := by
  by_cases ha : a <;> by_cases hb : b <;> by_cases hc : c <;> simp_all
theorem tm10 {x : Int} (h : ¬ x.tmod 10 = 0) : (x.tmod 10 != 0) = true := bne_iff_ne.2 h
theorem tm10' {x : Int} (h : x.tmod 10 = 0) : (x.tmod 10 != 0) = false := by rw [h]; rfl
end Go.DC
namespace Go.Proofs.YtidlemedkjkmdaaDoor
open Go.RowKit Go.VB Go.DC
set_option maxRecDepth 100000 in
set_option maxHeartbeats 400000 in
theorem num_any (n : Int) (w : World) : Calls Tryd.prog 37 #[.int .i64 n] w (Ret (.bool (decide (okN n))) w) := by
  by_cases h1 : n < -999999999999999999
  · rw [decide_eq_false (show ¬ okN n by unfold okN; omega)]
    go_enter Tryd.func37, Tryd.ntmps37
    go_wp2
    go_ret
    first | exact Ret.mk rfl | exact Ret.mk (congrArg Value.bool (decide_eq_false (by omega))) | exact Ret.mk (congrArg Value.bool (decide_eq_true (by omega)))
  by_cases h2 : 999999999999999999 < n
  · rw [decide_eq_false (show ¬ okN n by unfold okN; omega)]
    go_enter Tryd.func37, Tryd.ntmps37
    go_wp2
    go_ret
    first | exact Ret.mk rfl | exact Ret.mk (congrArg Value.bool (decide_eq_false (by omega))) | exact Ret.mk (congrArg Value.bool (decide_eq_true (by omega)))
  rw [decide_eq_true (show okN n by unfold okN; omega)]
  go_enter Tryd.func37, Tryd.ntmps37
  go_wp2
  go_ret
  first | exact Ret.mk rfl | exact Ret.mk (congrArg Value.bool (decide_eq_false (by omega))) | exact Ret.mk (congrArg Value.bool (decide_eq_true (by omega)))
set_option maxRecDepth 100000 in
set_option maxHeartbeats 400000 in
theorem scl_any (n : Int) (w : World) : Calls Tryd.prog 38 #[.int .i64 n] w (Ret (.bool (decide (okS n))) w) := by
  by_cases h1 : n < 0
  · rw [decide_eq_false (show ¬ okS n by unfold okS; omega)]
    go_enter Tryd.func38, Tryd.ntmps38
    go_wp2
    go_ret
    first | exact Ret.mk rfl | exact Ret.mk (congrArg Value.bool (decide_eq_false (by omega))) | exact Ret.mk (congrArg Value.bool (decide_eq_true (by omega)))
  by_cases h2 : 18 < n
  · rw [decide_eq_false (show ¬ okS n by unfold okS; omega)]
    go_enter Tryd.func38, Tryd.ntmps38
    go_wp2
    go_ret
    first | exact Ret.mk rfl | exact Ret.mk (congrArg Value.bool (decide_eq_false (by omega))) | exact Ret.mk (congrArg Value.bool (decide_eq_true (by omega)))
  rw [decide_eq_true (show okS n by unfold okS; omega)]
  go_enter Tryd.func38, Tryd.ntmps38
  go_wp2
  go_ret
  first | exact Ret.mk rfl | exact Ret.mk (congrArg Value.bool (decide_eq_false (by omega))) | exact Ret.mk (congrArg Value.bool (decide_eq_true (by omega)))
set_option maxRecDepth 100000 in
set_option maxHeartbeats 800000 in
theorem rnum_any (n k : Int) (w : World) : Calls Tryd.prog 45 #[.int .i64 n, .int .i64 k] w (Ret (.bool (decide (okN n ∧ okS k))) w) := by
  by_cases h : n<(-999999999999999999)
  · rw [decide_eq_false (show ¬ (okN n ∧ okS k) by unfold okN okS; omega)]
    go_enter Tryd.func45, Tryd.ntmps45
    go_wp2
    go_ret
    first | exact Ret.mk rfl | exact Ret.mk (congrArg Value.bool (decide_eq_false (by omega))) | exact Ret.mk (congrArg Value.bool (decide_eq_true (by omega)))
  by_cases h : 999999999999999999<n
  · rw [decide_eq_false (show ¬ (okN n ∧ okS k) by unfold okN okS; omega)]
    go_enter Tryd.func45, Tryd.ntmps45
    go_wp2
    go_ret
    first | exact Ret.mk rfl | exact Ret.mk (congrArg Value.bool (decide_eq_false (by omega))) | exact Ret.mk (congrArg Value.bool (decide_eq_true (by omega)))
  by_cases h : k<0
  · rw [decide_eq_false (show ¬ (okN n ∧ okS k) by unfold okN okS; omega)]
    go_enter Tryd.func45, Tryd.ntmps45
    go_wp2
    go_ret
    first | exact Ret.mk rfl | exact Ret.mk (congrArg Value.bool (decide_eq_false (by omega))) | exact Ret.mk (congrArg Value.bool (decide_eq_true (by omega)))
  by_cases h : 18<k
  · rw [decide_eq_false (show ¬ (okN n ∧ okS k) by unfold okN okS; omega)]
    go_enter Tryd.func45, Tryd.ntmps45
    go_wp2
    go_ret
    first | exact Ret.mk rfl | exact Ret.mk (congrArg Value.bool (decide_eq_false (by omega))) | exact Ret.mk (congrArg Value.bool (decide_eq_true (by omega)))
  rw [decide_eq_true (show okN n ∧ okS k by unfold okN okS; omega)]
  go_enter Tryd.func45, Tryd.ntmps45
  go_wp2
  go_ret
  first | exact Ret.mk rfl | exact Ret.mk (congrArg Value.bool (decide_eq_false (by omega))) | exact Ret.mk (congrArg Value.bool (decide_eq_true (by omega)))
set_option maxRecDepth 100000 in
set_option maxHeartbeats 2000000 in
theorem rescale_any (n a b : Int) (w : World) : Calls Tryd.prog 69 #[.int .i64 n, .int .i64 a, .int .i64 b] w (Ret (.tuple #[.int .i64 (rsN n a b), .int .i64 (rsC n a b : Nat)]) w) := by
  have h1 := num_any n w
  have h2 := scl_any a w
  have h3 := scl_any b w
  by_cases hok : okN n ∧ okS a ∧ okS b
  · rw [rsN_in hok, rsC_in hok]
    obtain ⟨o1, o2, o3⟩ := hok
    rw [decide_eq_true o1] at h1
    rw [decide_eq_true o2] at h2
    rw [decide_eq_true o3] at h3
    have H1 := Lib.hid h1; have H2 := Lib.hid h2; have H3 := Lib.hid h3; clear h1 h2 h3
    by_cases hab : a ≤ b
    · have hs := Lib.hid (upAt.start o1 hab)
      unfold okS at o2 o3
      clear o1
      go_enter Tryd.func69, Tryd.ntmps69
      go_wp2_with (first
        | (go_at_call 37; refine H1.out.mono ?_; rintro e w' ⟨rfl, rfl⟩)
        | (go_at_call 38; (with_reducible refine H2.out.mono ?_); rintro e w' ⟨rfl, rfl⟩)
        | (go_at_call 38; (with_reducible refine H3.out.mono ?_); rintro e w' ⟨rfl, rfl⟩))
      go_loop [0, 1] (fun x c => ∃ X C : Int, x = .int .i64 X ∧ c = .int .i64 C ∧ upAt n a b X C ∧ a ≤ C ∧ C ≤ b) (fun _ c => (b - intOf c).toNat)
      case atStart => exact ⟨n, a, rfl, rfl, hs.out, Int.le_refl _, hab⟩
      case round =>
        obtain ⟨X, C, rfl, rfl, hu, hC1, hC2⟩ := hrel
        have hX := hu.2
        unfold okN at hX
        have HU := Lib.hid hu; clear hu
        by_cases hlt : C < b
        · by_cases ht : X > 99999999999999999
          · have hN := Lib.hid (HU.out.stop hlt (.inl ht))
            go_wp2
            go_ret2
            exact Ret.mk (by rw [hN.out]; rfl)
          by_cases ht2 : X < -99999999999999999
          · have hN := Lib.hid (HU.out.stop hlt (.inr ht2))
            go_wp2
            go_ret2
            exact Ret.mk (by rw [hN.out]; rfl)
          have hN := Lib.hid (HU.out.go hlt (by omega))
          go_wp2
          go_round
          case rel => exact ⟨X * 10, C + 1, by go_num, by go_num, hN.out, by omega, by omega⟩
          case measure => simp [intOf] <;> omega
        · have hN := Lib.hid (HU.out.done hlt)
          go_wp2
          go_loop [0, 1] (fun x c => x = .int .i64 X ∧ c = .int .i64 C) (fun _ _ => 0)
          case atStart => exact ⟨rfl, rfl⟩
          case round =>
            obtain ⟨rfl, rfl⟩ := hrel
            go_wp2
            go_ret2
            exact Ret.mk (by rw [hN.out]; rfl)
    · have hs := Lib.hid (downAt.start o1 hab)
      unfold okS at o2 o3
      clear o1
      go_enter Tryd.func69, Tryd.ntmps69
      go_wp2_with (first
        | (go_at_call 37; refine H1.out.mono ?_; rintro e w' ⟨rfl, rfl⟩)
        | (go_at_call 38; (with_reducible refine H2.out.mono ?_); rintro e w' ⟨rfl, rfl⟩)
        | (go_at_call 38; (with_reducible refine H3.out.mono ?_); rintro e w' ⟨rfl, rfl⟩))
      go_loop [0, 1] (fun x c => x = .int .i64 n ∧ c = .int .i64 a) (fun _ _ => 0)
      case atStart => exact ⟨rfl, rfl⟩
      case round =>
        obtain ⟨rfl, rfl⟩ := hrel
        go_wp2
        go_loop [0, 1] (fun x c => ∃ X C : Int, x = .int .i64 X ∧ c = .int .i64 C ∧ downAt n a b X C ∧ b ≤ C ∧ C ≤ a) (fun _ c => (intOf c - b).toNat)
        case atStart => exact ⟨n, a, rfl, rfl, hs.out, by omega, Int.le_refl _⟩
        case round =>
          obtain ⟨X, C, rfl, rfl, hu, hC1, hC2⟩ := hrel
          have HU := Lib.hid hu; clear hu
          by_cases hlt : b < C
          · by_cases ht : X.tmod 10 = 0
            · have hd := tm10' ht
              have hN := HU.out.go hlt ht
              have hq := hN.2
              unfold okN at hq
              have HN := Lib.hid hN; have HT := Lib.hid ht; clear hN ht
              go_wp2
              clear hd
              go_round
              case rel => exact ⟨X.tdiv 10, C - 1, by go_num, by go_num, HN.out, by omega, by omega⟩
              case measure => simp [intOf] <;> omega
            · have hd := tm10 ht
              have hN := Lib.hid (HU.out.stop hlt ht)
              clear ht
              go_wp2
              go_ret2
              exact Ret.mk (by rw [hN.out]; rfl)
          · have hN := Lib.hid (HU.out.done hlt)
            go_wp2
            go_ret2
            exact Ret.mk (by rw [hN.out]; rfl)
  · rw [rsN_out hok, rsC_out hok]
    rcases not3 hok with e1 | ⟨e1, e2 | ⟨e2, e3⟩⟩
    · rw [e1] at h1
      have H1 := Lib.hid h1; clear h1 h2 h3 hok e1
      go_enter Tryd.func69, Tryd.ntmps69
      go_wp2_with (go_at_call 37; refine H1.out.mono ?_; rintro e w' ⟨rfl, rfl⟩)
      go_ret2
      exact Ret.mk rfl
    · rw [e1] at h1
      rw [e2] at h2
      have H1 := Lib.hid h1; have H2 := Lib.hid h2; clear h1 h2 h3 hok e1 e2
      go_enter Tryd.func69, Tryd.ntmps69
      go_wp2_with (first
        | (go_at_call 37; refine H1.out.mono ?_; rintro e w' ⟨rfl, rfl⟩)
        | (go_at_call 38; (with_reducible refine H2.out.mono ?_); rintro e w' ⟨rfl, rfl⟩))
      go_ret2
      exact Ret.mk rfl
    · rw [e1] at h1
      rw [e2] at h2
      rw [e3] at h3
      have H1 := Lib.hid h1; have H2 := Lib.hid h2; have H3 := Lib.hid h3; clear h1 h2 h3 hok e1 e2 e3
      go_enter Tryd.func69, Tryd.ntmps69
      go_wp2_with (first
        | (go_at_call 37; refine H1.out.mono ?_; rintro e w' ⟨rfl, rfl⟩)
        | (go_at_call 38; (with_reducible refine H2.out.mono ?_); rintro e w' ⟨rfl, rfl⟩)
        | (go_at_call 38; (with_reducible refine H3.out.mono ?_); rintro e w' ⟨rfl, rfl⟩))
      go_ret2
      exact Ret.mk rfl
end Go.Proofs.YtidlemedkjkmdaaDoor
