/- The walks over package dict: sorting, which calls itself. -/
import Derived.Test.YtikokmafofbofaaDctW1
namespace Go.Proofs.Ytikokmafofbofaa
open Go.RowKit Go.VB Go.VarM Go.BP Go.RL Go.DI
set_option maxRecDepth 100000 in
set_option maxHeartbeats 4000000 in
theorem sort_any (n : Nat) : ∀ (v : Value) (l : List ByteArray) (B : Nat) (w : World), l.length ≤ n → RdV Value.string w B v l → B ≤ w.heap.size → l.length ≤ 8796093022208 →
    Calls Try.prog 21 #[v] w (RetV Value.string 9 (srt l) w) := by
  induction n with
  | zero =>
    intro v l B w hn hr hB _
    have hl : l = [] := List.eq_nil_of_length_eq_zero (by omega)
    subst hl
    obtain ⟨A, c, _, rfl, rfl, h1, h2⟩ := hr.bds
    have HR := Lib.hid (hr.below ((Below.refl B w).alloc hB (.cells #[] 9)))
    clear hr hn
    go_enter Try.func21, Try.ntmps21
    go_wp2_with (first
      | (at_builtin; refine wpl_appV (f := Value.string) (fun _ => rfl) (.string ⟨#[]⟩) rfl rfl _ _ 22 rfl w.heap.size 9 16 Try.underlying22 Try.infStr _ [] rfl (OwnV.empty _ _ _ _ 0 (Nat.le_refl _) _ rfl (by decide)) B _ [] rfl HR.out (by decide) (by decide) (by simp) ?_; intro v' w' hown' hb' _))
    go_ret
    rw [srt_nil]
    exact RetV.mk rfl hown' (((Below.refl _ _).alloc (Nat.le_refl _) _).trans hb')
  | succ n ih =>
    intro v l B w hn hr hB hl
    obtain ⟨A, c, _, rfl, rfl, h1, h2⟩ := hr.bds
    by_cases hs : l.length < 2
    · have hsl := srt_small hs
      have HR := Lib.hid (hr.below ((Below.refl B w).alloc hB (.cells #[] 9)))
      have HS := Lib.hid hsl; have HIH := Lib.hid ih
      clear hr hn hsl ih
      go_enter Try.func21, Try.ntmps21
      go_wp2_with (first
        | (at_builtin; refine wpl_appV (f := Value.string) (fun _ => rfl) (.string ⟨#[]⟩) rfl rfl _ _ 22 rfl w.heap.size 9 16 Try.underlying22 Try.infStr _ [] rfl (OwnV.empty _ _ _ _ 0 (Nat.le_refl _) _ rfl (by decide)) B _ l rfl HR.out (by unfold maxLen; simp; omega) (by simp; omega) (by simp) ?_; intro v' w' hown' hb' _))
      go_ret
      rw [HS.out]
      exact RetV.mk rfl hown' (((Below.refl _ _).alloc (Nat.le_refl _) _).trans hb')
    · obtain ⟨x, hx⟩ : ∃ x, l[0]? = some x := ⟨l[0], List.getElem?_eq_getElem (by omega)⟩
      obtain ⟨ad, rfl, _, _⟩ := hr.at hx
      have hh := srt_halves l (l.length / 2)
      obtain ⟨m, hm⟩ : ∃ m, l.length / 2 = m := ⟨_, rfl⟩
      have hm1 : 1 ≤ m := by omega
      have hm2 : m < l.length := by omega
      have hdr : (l.drop m).length = l.length - m := List.length_drop
      have htk : (l.take m).length = m := by rw [List.length_take]; omega
      have hr1 : RdV Value.string w B (.slice (some ad) m c) (l.take m) := by
        have := hr.head (m := l.take m) (by rw [htk]) (by omega)
        rwa [htk] at this
      have hr2 := hr.tail m (by omega)
      rw [hm] at hh
      have hcm : ¬ c = m := by omega
      have hq : (l.length : Int) / 2 = (m : Int) := by omega
      have hqt : (l.length : Int).tdiv 2 = (m : Int) := by rw [Int.tdiv_eq_ediv_of_nonneg (by omega)]; exact hq
      have H1 := fun w' (hb : Below B w w') (h : B ≤ w'.heap.size) => Lib.hid (ih _ (l.take m) B w' (by omega) (hr1.below hb) h (by omega))
      have H2 := fun w' (hb : Below B w w') (h : B ≤ w'.heap.size) => Lib.hid (ih _ (l.drop m) B w' (by omega) (hr2.below hb) h (by omega))
      have hsl1 := srt_len (l.take m); have hsl2 := srt_len (l.drop m)
      have H3 := fun va vb w' (h1 : RdV Value.string w' w'.heap.size va (srt (l.take m))) (h2 : RdV Value.string w' w'.heap.size vb (srt (l.drop m))) =>
        Lib.hid (merge_any va vb _ _ _ w' h1 h2 (Nat.le_refl _) (srt_asc _) (srt_asc _) (by omega))
      rw [hh] at H3
      clear hr hr1 hr2 ih hsl1 hsl2 hh hn hdr htk hm hx
      generalize srt (l.take m) = S1 at *
      generalize srt (l.drop m) = S2 at *
      go_enter Try.func21, Try.ntmps21
      go_wp2_with fail
      have hb0 : Below B w w.drew := (Below.refl B w).drew
      have hB0 : B ≤ w.drew.heap.size := hB
      clear hq hqt
      go_region_with (first
        | (go_at_call 21; (with_reducible refine (H1 _ hb0 hB0).out.mono ?_); rintro e w1 ⟨v1, rfl, hown1, hb1⟩; have hr1 := hown1.read; have hbB1 : Below B w w1 := hb0.trans (hb1.mono hB0); have hB1 : B ≤ w1.heap.size := Nat.le_trans hB0 hb1.size; clear hown1)
        | (go_at_call 21; (with_reducible refine (H2 _ hbB1 hB1).out.mono ?_); rintro e w2 ⟨v2, rfl, hown2, hb2⟩; have hr2 := hown2.read; have hr1' := hr1.step hb2; clear hown2 hr1)
        | (go_at_call 37; (with_reducible refine (H3 _ _ _ hr1' hr2).out.mono ?_); rintro e w3 ⟨v3, rfl, hown3, hb3⟩))
      all_goals go_wp2
      all_goals go_ret
      all_goals have hbb := bel_trans (bel_trans ((Below.refl w.heap.size w).drew.trans hb1) hb2) hb3
      all_goals exact RetV.mk rfl (hown3.lower (bel_trans ((Below.refl w.heap.size w).drew.trans hb1) hb2).size) hbb
end Go.Proofs.Ytikokmafofbofaa
