/- The walk over package wide's Parse. -/
import Derived.Test.YtollobhkdbodlaaWidW2
import Derived.Test.YtollobhkdbodlaaWidW7
import Derived.Test.YtollobhkdbodlaaWidW8
namespace Go.WD
open Go.VB Go.DT Go.DC Go.RowKit
def limP : ByteArray := ⟨#[49, 55, 48, 49, 52, 49, 49, 56, 51, 52, 54, 48, 52, 54, 57, 50, 51, 49, 55, 51, 49, 54, 56, 55, 51, 48, 51, 55, 49, 53, 56, 56, 52, 49, 48, 53, 55, 50, 55]⟩
def limN : ByteArray := ⟨#[49, 55, 48, 49, 52, 49, 49, 56, 51, 52, 54, 48, 52, 54, 57, 50, 51, 49, 55, 51, 49, 54, 56, 55, 51, 48, 51, 55, 49, 53, 56, 56, 52, 49, 48, 53, 55, 50, 56]⟩
theorem limP_is : limP = str (by8 (dg 170141183460469231731687303715884105727 39)) := by decide
theorem limN_is : limN = str (by8 (dg 170141183460469231731687303715884105728 39)) := by decide
theorem lit45 : (⟨#[45]⟩ : ByteArray).toList = [45] := by rw [ByteArray.toList_eq]
theorem minus_t {s : ByteArray} (h : 0 < s.size) (h2 : bN s 0 = 45) : ((s.extract 0 1).toList == [45]) = true := by have := text_eq ((minus_text h).2 h2); rw [lit45] at this; exact this
theorem minus_f {s : ByteArray} (h : 0 < s.size) (h2 : ¬ bN s 0 = 45) : ((s.extract 0 1).toList == [45]) = false := by have := text_ne (fun e => h2 ((minus_text h).1 e)); rw [lit45] at this; exact this
end Go.WD
namespace Go.Proofs.Ytollobhkdbodlaa
open Go.RowKit Go.VB Go.WD Go.DT Go.DC
set_option maxRecDepth 100000 in
set_option maxHeartbeats 4000000 in
theorem wparse_any (s : ByteArray) (w : World) (zs : s.size ≤ 140737488351232) : Calls Try.prog 24 #[.string s] w (RetB (.tuple #[wd (WN s), .int .i64 (WC s : Nat)]) w) := by
  by_cases h40 : 40 < s.size
  · have hb : ¬ okW s := fun h => by have := h.1; omega
    rw [WN_bad hb, WC_bad hb, wd_zero]
    clear hb
    have hd : decide ((40 : Int) < (s.size : Int)) = true := decide_eq_true (by omega)
    go_enter Try.func24, Try.ntmps24
    go_wp2
    refine bodyPost_ret (v := .tuple #[.agg #[.int .i64 0, .int .u64 0], .int .i64 2]) (by simp [results, Try.results24, go_sem]) rfl ?_
    exact RetB.mk rfl (by go_grown)
  have hd40 : decide ((40 : Int) < (s.size : Int)) = false := decide_eq_false (by omega)
  by_cases h0 : s.size = 0
  · have hb : ¬ okW s := fun h => by
      have h1 := h.2.1.2.1
      have h2 : (body s).size ≤ s.size := by unfold body; split <;> (try rw [ByteArray.size_extract]) <;> omega
      omega
    have H1 := fun w => Lib.hid (wdecimal_any s w zs)
    rw [decide_eq_false (fun h : isD s => by have := h.2.1; omega)] at H1
    have he := is_empty h0
    rw [WN_bad hb, WC_bad hb, wd_zero]
    clear hb h0 h40
    go_enter Try.func24, Try.ntmps24
    go_wp2_with (go_at_call 29; (with_reducible refine (H1 _).out.mono ?_); rintro e w' ⟨rfl, rfl⟩)
    refine bodyPost_ret (v := .tuple #[.agg #[.int .i64 0, .int .u64 0], .int .i64 2]) (by simp [results, Try.results24, go_sem]) rfl ?_
    exact RetB.mk rfl (by go_grown)
  have he := ne_empty h0
  have hpos : 0 < s.size := by omega
  by_cases h45 : bN s 0 = 45
  · have hm := minus_t hpos h45
    have hng : ngb s = true := decide_eq_true ⟨hpos, h45⟩
    have hbd : body s = s.extract 1 s.size := by unfold body; rw [hng, if_pos rfl]
    have hsz : (s.extract 1 s.size).size = s.size - 1 := size_extract s 1 s.size (Nat.le_refl _)
    have hok : okW s ↔ isD (s.extract 1 s.size) ∧ ¬ bN (s.extract 1 s.size) 0 = 48 := by
      unfold okW; rw [hbd, hng]
      exact ⟨fun h => ⟨h.2.1, fun h2 => h.2.2 ⟨rfl, h2⟩⟩, fun h => ⟨by omega, h.1, fun h2 => h.2 h2.2⟩⟩
    have hfit : fitsW s ↔ vl (s.extract 1 s.size) ≤ 170141183460469231731687303715884105728 := by unfold fitsW limW; rw [hbd, hng, if_pos rfl]
    have hval : okW s → fitsW s → WN s = -((vl (s.extract 1 s.size) : Nat) : Int) := fun h1 h2 => by rw [WN_ok h1 h2, hng, hbd]; rfl
    have hp1 : (1 : Int) ≤ (s.size : Int) := by omega
    clear hbd hng h0 h45 hpos h40
    generalize gD : s.extract 1 s.size = D at *
    have H1 := fun w => Lib.hid (wdecimal_any D w (by omega))
    by_cases hD : isD D
    · rw [decide_eq_true hD] at H1
      by_cases hz : bN D 0 = 48
      · have hb : ¬ okW s := fun h => (hok.1 h).2 hz
        have ht := zero_t (zero_text.2 ⟨hD.2.2 hz, hz⟩)
        rw [WN_bad hb, WC_bad hb, wd_zero]
        clear hb hok hfit hval hD hz hsz
        go_enter Try.func24, Try.ntmps24
        go_wp2_with (go_at_call 29; (with_reducible refine (H1 _).out.mono ?_); rintro e w' ⟨rfl, rfl⟩)
        refine bodyPost_ret (v := .tuple #[.agg #[.int .i64 0, .int .u64 0], .int .i64 2]) (by simp [results, Try.results24, go_sem]) rfl ?_
        exact RetB.mk rfl (by go_grown)
      have ho := hok.2 ⟨hD, hz⟩
      have ht := zero_f (fun h => hz (zero_text.1 h).2)
      have H2 := fun w => Lib.hid (wexceeds_any D limN 170141183460469231731687303715884105728 w (by omega) hD limN_is (by decide) (by decide))
      unfold limN at H2
      by_cases hx : 170141183460469231731687303715884105728 < vl D
      · rw [decide_eq_true hx] at H2
        have hf : ¬ fitsW s := fun h => by have := hfit.1 h; omega
        rw [WN_big hf, WC_big ho hf, wd_zero]
        clear hok hfit hval hD hz hsz hf ho hx
        go_enter Try.func24, Try.ntmps24
        go_wp2_with (first
          | (go_at_call 29; (with_reducible refine (H1 _).out.mono ?_); rintro e w' ⟨rfl, rfl⟩)
          | (go_at_call 30; (with_reducible refine (H2 _).out.mono ?_); rintro e w' ⟨rfl, rfl⟩))
        refine bodyPost_ret (v := .tuple #[.agg #[.int .i64 0, .int .u64 0], .int .i64 8]) (by simp [results, Try.results24, go_sem]) rfl ?_
        exact RetB.mk rfl (by go_grown)
      · rw [decide_eq_false hx] at H2
        have hf : fitsW s := hfit.2 (by omega)
        rw [hval ho hf, WC_ok ho hf, wd_is]
        have H3 := fun w => Lib.hid (wnumber_any D w (by omega) hD.1)
        have H4 := fun w => Lib.hid (wneg_any ((vl D : Nat) : Int) w)
        simp only [wd_is] at H3 H4
        clear hok hfit hval hD hz hsz hf ho hx
        generalize hi (-((vl D : Nat) : Int)) = p9 at *
        generalize lo (-((vl D : Nat) : Int)) = u9 at *
        generalize hi ((vl D : Nat) : Int) = p at *
        generalize lo ((vl D : Nat) : Int) = u at *
        have v2 := Var2.new w (.int .i64 0) (.int .u64 0) 24
        have hb0 : Below w.heap.size w (w.alloc (.cells #[.int .i64 0, .int .u64 0] 24)) := by go_grown
        go_enter Try.func24, Try.ntmps24
        go_wp2_with (first
          | (go_at_call 29; (with_reducible refine (H1 _).out.mono ?_); rintro e w' ⟨rfl, rfl⟩)
          | (go_at_call 30; (with_reducible refine (H2 _).out.mono ?_); rintro e w' ⟨rfl, rfl⟩)
          | (go_at_call 31; (with_reducible refine (H3 _).out.mono ?_); rintro e w1 ⟨rfl, hb1⟩; have hbb1 := (bel_trans hb0 hb1).alloc (Nat.le_trans hb0.size hb1.size) (.cells #[.int .i64 p, .int .u64 u] 24); have v2' := (v2.step hb1).alloc (.cells #[.int .i64 p, .int .u64 u] 24); have v7 := Var2.new w1 (.int .i64 p) (.int .u64 u) 24)
          | (go_at_call 20; (with_reducible refine (H4 _).out.mono ?_); rintro e w2 ⟨rfl, hb2⟩; have hne := Nat.ne_of_lt (v2.step hb1).lt; obtain ⟨c0, c1, c2, c3⟩ := (v2'.step hb2).other hne (.int .i64 p9) (.int .u64 u9); obtain ⟨d0, d1, d2, d3⟩ := v7.step hb2; have hbb2 := bel_trans hbb1 hb2))
        refine bodyPost_ret (v := .tuple #[.agg #[.int .i64 p9, .int .u64 u9], .int .i64 0]) (by simp [results, Try.results24, go_sem, c0, c1]) rfl ?_
        exact RetB.mk rfl (set2_below (set2_below hbb2 (hb0.trans (hb1.mono hb0.size)).size (.int .i64 p9) (.int .u64 u9)) (Nat.le_refl _) _ _)
    · rw [decide_eq_false hD] at H1
      have hb : ¬ okW s := fun h => hD (hok.1 h).1
      rw [WN_bad hb, WC_bad hb, wd_zero]
      clear hb hok hfit hval hD hsz
      go_enter Try.func24, Try.ntmps24
      go_wp2_with (go_at_call 29; (with_reducible refine (H1 _).out.mono ?_); rintro e w' ⟨rfl, rfl⟩)
      refine bodyPost_ret (v := .tuple #[.agg #[.int .i64 0, .int .u64 0], .int .i64 2]) (by simp [results, Try.results24, go_sem]) rfl ?_
      exact RetB.mk rfl (by go_grown)
  · have hm := minus_f hpos h45
    have hng : ngb s = false := decide_eq_false (fun h => h45 h.2)
    have hbd : body s = s := by unfold body; rw [hng, if_neg (by decide)]
    have hok : okW s ↔ isD s := by
      unfold okW; rw [hbd, hng]
      exact ⟨fun h => h.2.1, fun h => ⟨by omega, h, fun h2 => by cases h2.1⟩⟩
    have hfit : fitsW s ↔ vl (s) ≤ 170141183460469231731687303715884105727 := by unfold fitsW limW; rw [hbd, hng, if_neg (by decide)]
    have hval : okW s → fitsW s → WN s = ((vl s : Nat) : Int) := fun h1 h2 => by rw [WN_ok h1 h2, hng, hbd]; rfl
    have hp1 : (1 : Int) ≤ (s.size : Int) := by omega
    clear hbd hng h0 h45 hpos h40
    have H1 := fun w => Lib.hid (wdecimal_any s w (by omega))
    by_cases hD : isD s
    · rw [decide_eq_true hD] at H1
      have ho := hok.2 hD
      have H2 := fun w => Lib.hid (wexceeds_any s limP 170141183460469231731687303715884105727 w (by omega) hD limP_is (by decide) (by decide))
      unfold limP at H2
      by_cases hx : 170141183460469231731687303715884105727 < vl s
      · rw [decide_eq_true hx] at H2
        have hf : ¬ fitsW s := fun h => by have := hfit.1 h; omega
        rw [WN_big hf, WC_big ho hf, wd_zero]
        clear hok hfit hval hD hf ho hx
        go_enter Try.func24, Try.ntmps24
        go_wp2_with (first
          | (go_at_call 29; (with_reducible refine (H1 _).out.mono ?_); rintro e w' ⟨rfl, rfl⟩)
          | (go_at_call 30; (with_reducible refine (H2 _).out.mono ?_); rintro e w' ⟨rfl, rfl⟩))
        refine bodyPost_ret (v := .tuple #[.agg #[.int .i64 0, .int .u64 0], .int .i64 8]) (by simp [results, Try.results24, go_sem]) rfl ?_
        exact RetB.mk rfl (by go_grown)
      · rw [decide_eq_false hx] at H2
        have hf : fitsW s := hfit.2 (by omega)
        rw [hval ho hf, WC_ok ho hf, wd_is]
        have H3 := fun w => Lib.hid (wnumber_any s w (by omega) hD.1)
        simp only [wd_is] at H3
        clear hok hfit hval hD hf ho hx
        generalize hi ((vl s : Nat) : Int) = p at *
        generalize lo ((vl s : Nat) : Int) = u at *
        have v2 := Var2.new w (.int .i64 0) (.int .u64 0) 24
        have hb0 : Below w.heap.size w (w.alloc (.cells #[.int .i64 0, .int .u64 0] 24)) := by go_grown
        go_enter Try.func24, Try.ntmps24
        go_wp2_with (first
          | (go_at_call 29; (with_reducible refine (H1 _).out.mono ?_); rintro e w' ⟨rfl, rfl⟩)
          | (go_at_call 30; (with_reducible refine (H2 _).out.mono ?_); rintro e w' ⟨rfl, rfl⟩)
          | (go_at_call 31; (with_reducible refine (H3 _).out.mono ?_); rintro e w1 ⟨rfl, hb1⟩; have hbb1 := (bel_trans hb0 hb1).alloc (Nat.le_trans hb0.size hb1.size) (.cells #[.int .i64 p, .int .u64 u] 24); have v2' := (v2.step hb1).alloc (.cells #[.int .i64 p, .int .u64 u] 24); have v7 := Var2.new w1 (.int .i64 p) (.int .u64 u) 24; obtain ⟨c0, c1, c2, c3⟩ := v2'))
        refine bodyPost_ret (v := .tuple #[.agg #[.int .i64 p, .int .u64 u], .int .i64 0]) (by simp [results, Try.results24, go_sem, c0, c1]) rfl ?_
        exact RetB.mk rfl (set2_below hbb1 (Nat.le_refl _) _ _)
    · rw [decide_eq_false hD] at H1
      have hb : ¬ okW s := fun h => hD (hok.1 h)
      rw [WN_bad hb, WC_bad hb, wd_zero]
      clear hb hok hfit hval hD
      go_enter Try.func24, Try.ntmps24
      go_wp2_with (go_at_call 29; (with_reducible refine (H1 _).out.mono ?_); rintro e w' ⟨rfl, rfl⟩)
      refine bodyPost_ret (v := .tuple #[.agg #[.int .i64 0, .int .u64 0], .int .i64 2]) (by simp [results, Try.results24, go_sem]) rfl ?_
      exact RetB.mk rfl (by go_grown)
end Go.Proofs.Ytollobhkdbodlaa
