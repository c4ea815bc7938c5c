/- The walk over the reference's Check. -/
import Derived.Test.YtjbkeipagdmlpaaValW2
namespace Go.VL
theorem okT_five {ty : Int} (h : okT ty = true) : ty = 1 ∨ ty = 2 ∨ ty = 3 ∨ ty = 4 ∨ ty = 5 := by
  have := of_decide_eq_true h; omega
end Go.VL
namespace Go.Proofs.Ytjbkeipagdmlpaa
open Go.RowKit Go.VB Go.VL
set_option maxRecDepth 100000 in
set_option maxHeartbeats 4000000 in
theorem rchk_any (nm : ByteArray) (ty sc : Int) (nu nul : Bool) (n : Int) (s : ByteArray) (w : World) :
    Calls Try.prog 61 #[(.agg #[.string nm, .int .i64 ty, .int .i64 sc, .bool nu]), (.agg #[.bool nul, .int .i64 n, .string s])] w (RetB (.int .i64 (chk ty nu nul n s : Nat)) w) := by
  have HT := fun w => Lib.hid (rtyped_any ty w)
  by_cases hT : okT ty = true
  · rw [hT] at HT
    cases nul
    · rw [chk_val hT]
      have h5 := okT_five hT
      clear hT
      by_cases h3 : ty = 3
      · subst h3
        by_cases hn : n = 0
        · subst hn
          rw [if_neg (by omega)]
          clear h5
          have hv : okP 3 0 s = decide (s.size ≤ 64) := rfl
          rw [hv]; clear hv
          by_cases hs : s.size ≤ 64
          · rw [decide_eq_true hs]
            have hd : decide ((s.size : Int) ≤ 64) = true := decide_eq_true (by omega)
            clear hs
            go_enter Try.func61, Try.ntmps61
            go_wp2_with (go_at_call 60; refine (HT _).out.mono ?_; rintro e w' ⟨rfl, rfl⟩)
            go_ret
            exact RetB.mk rfl (by go_grown)
          · rw [decide_eq_false hs]
            have hd : decide ((s.size : Int) ≤ 64) = false := decide_eq_false (by omega)
            clear hs
            go_enter Try.func61, Try.ntmps61
            go_wp2_with (go_at_call 60; refine (HT _).out.mono ?_; rintro e w' ⟨rfl, rfl⟩)
            go_ret
            exact RetB.mk rfl (by go_grown)
        · rw [if_pos (.inl ⟨rfl, hn⟩)]
          have e1 := ine_t hn
          clear hn h5
          go_enter Try.func61, Try.ntmps61
          go_wp2_with (go_at_call 60; refine (HT _).out.mono ?_; rintro e w' ⟨rfl, rfl⟩)
          go_ret
          exact RetB.mk rfl (by go_grown)
      · by_cases hs : s.size = 0
        · rw [if_neg (by omega)]
          obtain rfl := s_empty hs
          clear hs
          rcases h5 with rfl | rfl | rfl | rfl | rfl
          · go_enter Try.func61, Try.ntmps61
            go_wp2_with (go_at_call 60; refine (HT _).out.mono ?_; rintro e w' ⟨rfl, rfl⟩)
            go_ret
            exact RetB.mk rfl (by go_grown)
          · have hv : okP 2 n ⟨#[]⟩ = decide (n = 0 ∨ n = 1) := rfl
            rw [hv]; clear hv
            by_cases h0 : n = 0
            · subst h0
              go_enter Try.func61, Try.ntmps61
              go_wp2_with (go_at_call 60; refine (HT _).out.mono ?_; rintro e w' ⟨rfl, rfl⟩)
              go_ret
              exact RetB.mk rfl (by go_grown)
            · by_cases h1 : n = 1
              · subst h1
                go_enter Try.func61, Try.ntmps61
                go_wp2_with (go_at_call 60; refine (HT _).out.mono ?_; rintro e w' ⟨rfl, rfl⟩)
                go_ret
                exact RetB.mk rfl (by go_grown)
              · rw [decide_eq_false (by omega)]
                have e0 := ieq_f h0
                have e1 := ieq_f h1
                clear h0 h1
                go_enter Try.func61, Try.ntmps61
                go_wp2_with (go_at_call 60; refine (HT _).out.mono ?_; rintro e w' ⟨rfl, rfl⟩)
                go_ret
                exact RetB.mk rfl (by go_grown)
          · exact absurd rfl h3
          · have hv : okP 4 n ⟨#[]⟩ = decide (-719162 ≤ n ∧ n ≤ 2932896) := rfl
            rw [hv]; clear hv
            by_cases g1 : -719162 ≤ n
            · by_cases g2 : n ≤ 2932896
              · rw [decide_eq_true ⟨g1, g2⟩]
                go_enter Try.func61, Try.ntmps61
                go_wp2_with (go_at_call 60; refine (HT _).out.mono ?_; rintro e w' ⟨rfl, rfl⟩)
                go_ret
                exact RetB.mk rfl (by go_grown)
              · rw [decide_eq_false (fun h => g2 h.2)]
                have hd := decide_eq_false g2
                clear g2
                go_enter Try.func61, Try.ntmps61
                go_wp2_with (go_at_call 60; refine (HT _).out.mono ?_; rintro e w' ⟨rfl, rfl⟩)
                go_ret
                exact RetB.mk rfl (by go_grown)
            · rw [decide_eq_false (fun h => g1 h.1)]
              have hd := decide_eq_false g1
              clear g1
              go_enter Try.func61, Try.ntmps61
              go_wp2_with (go_at_call 60; refine (HT _).out.mono ?_; rintro e w' ⟨rfl, rfl⟩)
              go_ret
              exact RetB.mk rfl (by go_grown)
          · have hv : okP 5 n ⟨#[]⟩ = decide (-999999999999999999 ≤ n ∧ n ≤ 999999999999999999) := rfl
            rw [hv]; clear hv
            by_cases g1 : -999999999999999999 ≤ n
            · by_cases g2 : n ≤ 999999999999999999
              · rw [decide_eq_true ⟨g1, g2⟩]
                go_enter Try.func61, Try.ntmps61
                go_wp2_with (go_at_call 60; refine (HT _).out.mono ?_; rintro e w' ⟨rfl, rfl⟩)
                go_ret
                exact RetB.mk rfl (by go_grown)
              · rw [decide_eq_false (fun h => g2 h.2)]
                have hd := decide_eq_false g2
                clear g2
                go_enter Try.func61, Try.ntmps61
                go_wp2_with (go_at_call 60; refine (HT _).out.mono ?_; rintro e w' ⟨rfl, rfl⟩)
                go_ret
                exact RetB.mk rfl (by go_grown)
            · rw [decide_eq_false (fun h => g1 h.1)]
              have hd := decide_eq_false g1
              clear g1
              go_enter Try.func61, Try.ntmps61
              go_wp2_with (go_at_call 60; refine (HT _).out.mono ?_; rintro e w' ⟨rfl, rfl⟩)
              go_ret
              exact RetB.mk rfl (by go_grown)
        · rw [if_pos (.inr ⟨h3, hs⟩)]
          have he := s_full hs
          have f3 := ine_t h3
          clear hs h3 h5
          go_enter Try.func61, Try.ntmps61
          go_wp2_with (go_at_call 60; refine (HT _).out.mono ?_; rintro e w' ⟨rfl, rfl⟩)
          go_ret
          exact RetB.mk rfl (by go_grown)
    · rw [chk_nul hT]
      clear hT
      by_cases hn : n = 0
      · subst hn
        by_cases hs : s.size = 0
        · obtain rfl := s_empty hs
          rw [if_neg (by rintro (h | h) <;> exact h rfl)]
          clear hs
          cases nu
          all_goals
            go_enter Try.func61, Try.ntmps61
            go_wp2_with (go_at_call 60; refine (HT _).out.mono ?_; rintro e w' ⟨rfl, rfl⟩)
            go_ret
            exact RetB.mk rfl (by go_grown)
        · rw [if_pos (.inr hs)]
          have he := s_full hs
          clear hs
          go_enter Try.func61, Try.ntmps61
          go_wp2_with (go_at_call 60; refine (HT _).out.mono ?_; rintro e w' ⟨rfl, rfl⟩)
          go_ret
          exact RetB.mk rfl (by go_grown)
      · rw [if_pos (.inl hn)]
        have e1 := ine_t hn
        clear hn
        go_enter Try.func61, Try.ntmps61
        go_wp2_with (go_at_call 60; refine (HT _).out.mono ?_; rintro e w' ⟨rfl, rfl⟩)
        go_ret
        exact RetB.mk rfl (by go_grown)
  · have hT' : okT ty = false := by simpa using hT
    rw [hT'] at HT
    rw [chk_ty hT']
    clear hT hT'
    go_enter Try.func61, Try.ntmps61
    go_wp2_with (go_at_call 60; refine (HT _).out.mono ?_; rintro e w' ⟨rfl, rfl⟩)
    go_ret
    exact RetB.mk rfl (by go_grown)
end Go.Proofs.Ytjbkeipagdmlpaa
