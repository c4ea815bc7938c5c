/- The walks over Check, package value's and the reference's. -/
import Derived.Test.YtjbkeipagdmlpaaValW1
namespace Go.VL
open Go.RowKit Go.VB
theorem s_empty {s : ByteArray} (h : s.size = 0) : s = ⟨#[]⟩ := by
  apply ByteArray.ext
  apply Array.toList_inj.1
  exact List.eq_nil_of_length_eq_zero (by rw [size_list]; omega)
theorem s_full {s : ByteArray} (h : ¬ s.size = 0) : s.toList.isEmpty = false := by
  rw [ByteArray.toList_eq]
  cases hl : s.data.toList with
  | nil => rw [← size_list, hl] at h; exact absurd rfl h
  | cons _ _ => rfl
theorem perm_bool {ty n : Int} {s : ByteArray} {b : Bool} (h : okP ty n s = b) : (if okP ty n s then (0 : Nat) else 4) = if b then 0 else 4 := by rw [h]
end Go.VL
namespace Go.Proofs.Ytjbkeipagdmlpaa
open Go.RowKit Go.VB Go.VL
set_option maxRecDepth 100000 in
set_option maxHeartbeats 4000000 in
theorem chk_any (nm : ByteArray) (ty sc : Int) (nu nul : Bool) (n : Int) (s : ByteArray) (w : World) :
    Calls Try.prog 58 #[(.agg #[.string nm, .int .i64 ty, .int .i64 sc, .bool nu]), (.agg #[.bool nul, .int .i64 n, .string s])] w (RetB (.int .i64 (chk ty nu nul n s : Nat)) w) := by
  have HT := fun w => Lib.hid (isType_any ty w)
  by_cases hT : okT ty = true
  · rw [hT] at HT
    cases nul
    · rw [chk_val hT]
      clear hT
      have HP := fun w => Lib.hid (isPerm_any ty false n s w)
      by_cases h3 : ty = 3
      · subst h3
        by_cases hn : n = 0
        · subst hn
          rw [if_neg (by omega)]
          generalize okP 3 0 s = b at HP
          by_cases hs : s.size = 0
          · obtain rfl := s_empty hs
            clear hs
            cases b
            all_goals
              go_enter Try.func58, Try.ntmps58
              go_wp2_with (first | (go_at_call 71; refine (HT _).out.mono ?_; rintro e w' ⟨rfl, rfl⟩) | (go_at_call 72; refine (HP _).out.mono ?_; rintro e w' ⟨rfl, hb⟩))
              go_ret
              exact RetB.mk rfl (bel_trans (by go_grown) hb)
          · have he := s_full hs
            clear hs
            cases b
            all_goals
              go_enter Try.func58, Try.ntmps58
              go_wp2_with (first | (go_at_call 71; refine (HT _).out.mono ?_; rintro e w' ⟨rfl, rfl⟩) | (go_at_call 72; refine (HP _).out.mono ?_; rintro e w' ⟨rfl, hb⟩))
              go_ret
              exact RetB.mk rfl (bel_trans (by go_grown) hb)
        · rw [if_pos (.inl ⟨rfl, hn⟩)]
          have e1 := ine_t hn
          clear hn HP
          go_enter Try.func58, Try.ntmps58
          go_wp2_with (go_at_call 71; refine (HT _).out.mono ?_; rintro e w' ⟨rfl, rfl⟩)
          go_ret
          exact RetB.mk rfl (by go_grown)
      · have e3 := ieq_f h3
        have f3 := ine_t h3
        by_cases hs : s.size = 0
        · rw [if_neg (by omega)]
          obtain rfl := s_empty hs
          generalize okP ty n ⟨#[]⟩ = b at HP
          clear hs h3
          have hn : (n != 0) = true ∨ (n != 0) = false := by cases n != 0 <;> simp
          rcases hn with hn | hn
          all_goals
            cases b
            all_goals
              go_enter Try.func58, Try.ntmps58
              go_wp2_with (first | (go_at_call 71; refine (HT _).out.mono ?_; rintro e w' ⟨rfl, rfl⟩) | (go_at_call 72; refine (HP _).out.mono ?_; rintro e w' ⟨rfl, hb⟩))
              go_ret
              exact RetB.mk rfl (bel_trans (by go_grown) hb)
        · rw [if_pos (.inr ⟨h3, hs⟩)]
          have he := s_full hs
          clear hs h3 HP
          have hn : (n != 0) = true ∨ (n != 0) = false := by cases n != 0 <;> simp
          rcases hn with hn | hn
          all_goals
            go_enter Try.func58, Try.ntmps58
            go_wp2_with (go_at_call 71; refine (HT _).out.mono ?_; rintro e w' ⟨rfl, rfl⟩)
            go_ret
            exact RetB.mk rfl (by go_grown)
    · rw [chk_nul hT]
      clear hT
      by_cases hn : n = 0
      · subst hn
        by_cases hs : s.size = 0
        · obtain rfl := s_empty hs
          rw [if_neg (by rintro (h | h) <;> exact h rfl)]
          clear hs
          cases nu
          all_goals
            go_enter Try.func58, Try.ntmps58
            go_wp2_with (go_at_call 71; refine (HT _).out.mono ?_; rintro e w' ⟨rfl, rfl⟩)
            go_ret
            exact RetB.mk rfl (by go_grown)
        · rw [if_pos (.inr hs)]
          have he := s_full hs
          clear hs
          go_enter Try.func58, Try.ntmps58
          go_wp2_with (go_at_call 71; refine (HT _).out.mono ?_; rintro e w' ⟨rfl, rfl⟩)
          go_ret
          exact RetB.mk rfl (by go_grown)
      · rw [if_pos (.inl hn)]
        have e1 := ine_t hn
        clear hn
        go_enter Try.func58, Try.ntmps58
        go_wp2_with (go_at_call 71; refine (HT _).out.mono ?_; rintro e w' ⟨rfl, rfl⟩)
        go_ret
        exact RetB.mk rfl (by go_grown)
  · have hT' : okT ty = false := by simpa using hT
    rw [hT'] at HT
    rw [chk_ty hT']
    clear hT hT'
    go_enter Try.func58, Try.ntmps58
    go_wp2_with (go_at_call 71; refine (HT _).out.mono ?_; rintro e w' ⟨rfl, rfl⟩)
    go_ret
    exact RetB.mk rfl (by go_grown)
end Go.Proofs.Ytjbkeipagdmlpaa
