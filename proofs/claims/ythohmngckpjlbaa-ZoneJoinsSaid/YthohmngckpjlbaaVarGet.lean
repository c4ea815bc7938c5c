/- The walk over varint.Get. -/
import Derived.Test.YthohmngckpjlbaaVarWalks
namespace Go.Proofs.Ythohmngckpjlbaa
open Go.RowKit Go.VB Go.VarM
theorem getR_out {s : ByteArray} {i : Int} (h : i < 0 ∨ (s.size : Int) < i) : getR s i = (0, 0, 4) := by unfold getR; rw [if_pos h]
theorem getR_in {s : ByteArray} {k : Nat} (h : k ≤ s.size) {r : Nat × Nat × Nat} (hg : getL (s.data.toList.drop k) = r) : getR s k = if r.2.2 = 0 then (r.1, (k : Int) + r.2.1, 0) else (0, 0, r.2.2) := by
  unfold getR
  rw [if_neg (by omega), Int.toNat_natCast, hg]
/-- The three results. -/
def vres (r : Nat × Int × Nat) : Value := .tuple #[.int .u64 (r.1 : Nat), .int .i64 r.2.1, .int .i64 (r.2.2 : Nat)]
set_option maxRecDepth 100000 in
set_option maxHeartbeats 1000000 in
theorem vget_any (s : ByteArray) (i : Int) (w : World) (hs : s.size ≤ maxLen) :
    Calls Try.prog 54 #[.string s, .int .i64 i] w (Ret (vres (getR s i)) w) := by
  unfold maxLen at hs
  by_cases hr : i < 0 ∨ (s.size : Int) < i
  · rw [getR_out hr]
    rcases hr with hr | hr
    · go_enter Try.func54, Try.ntmps54
      go_wp2
      go_ret3
      exact Ret.mk rfl
    · by_cases h0 : i < 0
      · omega
      · go_enter Try.func54, Try.ntmps54
        go_wp2
        go_ret3
        exact Ret.mk rfl
  · obtain ⟨k, rfl⟩ : ∃ k : Nat, i = k := ⟨i.toNat, by omega⟩
    have hk : k ≤ s.size := by omega
    have hlen : (s.data.toList.drop k).length = s.size - k := by rw [List.length_drop, size_list]
    have hes := vesize_any (s.extract k s.size) w (by rw [extract_end, str_size, hlen]; unfold maxLen; omega)
    rw [extract_list, List.take_of_length_le (by rw [hlen]; omega)] at hes
    have HLEN := Lib.hid hlen; clear hlen
    clear hr
    rcases hsz : sizeL 10 (s.data.toList.drop k) with _ | n
    · by_cases h10 : (s.data.toList.drop k).length < 10
      · rw [esL_short hsz h10] at hes
        rw [getR_in hk (r := (0, 0, 10)) (by unfold getL; rw [hsz]; simp only [h10, if_true])]
        have HES := Lib.hid hes; clear hes hsz h10
        go_enter Try.func54, Try.ntmps54
        go_wp2_with (go_at_call 64; refine HES.out.mono ?_; rintro e w' ⟨rfl, rfl⟩)
        go_ret3
        exact Ret.mk rfl
      · rw [esL_over hsz h10] at hes
        rw [getR_in hk (r := (0, 0, 8)) (by unfold getL; rw [hsz]; simp only [h10, if_false])]
        have HES := Lib.hid hes; clear hes hsz h10
        go_enter Try.func54, Try.ntmps54
        go_wp2_with (go_at_call 64; refine HES.out.mono ?_; rintro e w' ⟨rfl, rfl⟩)
        go_ret3
        exact Ret.mk rfl
    · rw [esL_some hsz] at hes
      obtain ⟨hn1, hn10, hnl, hall, hlast⟩ := sizeL_some 10 _ n hsz
      rw [HLEN.out] at hnl
      have hb := get_bN s
      have hgl : ((s.data.toList.drop k).getD (n - 1) 0).toNat = bN s (k + n - 1) := by
        unfold bN
        rw [List.getD_eq_getElem?_getD, List.getElem?_drop, ← List.getD_eq_getElem?_getD, show k + (n - 1) = k + n - 1 from by omega]
      have hgetL : getL (s.data.toList.drop k) = if n = 10 ∧ 1 < bN s (k + n - 1) then (0, 0, 8) else if 1 < n ∧ bN s (k + n - 1) = 0 then (0, 0, 2) else (joinL ((s.data.toList.drop k).take n), n, 0) := by
        unfold getL; rw [hsz]; simp only [hgl]
      rw [hgl] at hlast
      have hjl0 := fun h => joinL_bound hsz h
      rw [hgl] at hjl0
      generalize hB : bN s (k + n - 1) = B at hgetL hlast hjl0
      have hb1 : ∀ h : k + n - 1 < s.size, (s[k + n - 1]'h).toNat = B := fun h => by rw [hb, hB]
      have HES := Lib.hid hes; have HJ0 := Lib.hid hjl0; clear hes hsz hall hgl hb hB hjl0
      by_cases hov : n = 10 ∧ 1 < B
      · rw [getR_in hk (r := (0, 0, 8)) (by rw [hgetL, if_pos hov])]
        obtain ⟨hn, hov⟩ := hov
        have hn' : 10 ≤ n := by omega
        clear hgetL hn
        go_enter Try.func54, Try.ntmps54
        go_wp2_with (go_at_call 64; refine HES.out.mono ?_; rintro e w' ⟨rfl, rfl⟩)
        go_ret3
        exact Ret.mk rfl
      · have hov' : n ≤ 9 ∨ (10 ≤ n ∧ B ≤ 1) := by omega
        by_cases hz : 1 < n ∧ B = 0
        · rw [getR_in hk (r := (0, 0, 2)) (by rw [hgetL, if_neg hov, if_pos hz])]
          obtain ⟨hz1, hz0⟩ := hz
          have hz0' : B ≤ 0 := by omega
          clear hgetL hov hz0
          rcases hov' with hov' | ⟨hov', hov2⟩
          all_goals
            go_enter Try.func54, Try.ntmps54
            go_wp2_with (go_at_call 64; refine HES.out.mono ?_; rintro e w' ⟨rfl, rfl⟩)
            all_goals (go_ret3; exact Ret.mk rfl)
        · rw [getR_in hk (r := (joinL ((s.data.toList.drop k).take n), n, 0)) (by rw [hgetL, if_neg hov, if_neg hz])]
          have hz' : n ≤ 1 ∨ (2 ≤ n ∧ 1 ≤ B) := by omega
          have hjl := HJ0.out hov
          have hj := vjoin_any (s.extract k (k + n)) w (by simp; omega) (by rw [extract_list, show k + n - k = n from by omega]; exact hjl)
          rw [extract_list, show k + n - k = n from by omega] at hj
          have HJ := Lib.hid hj
          clear hgetL hov hz hj hjl
          rcases hov' with hov' | ⟨hov', hov2⟩
          · rcases hz' with hz' | ⟨hz', hz2⟩
            · go_enter Try.func54, Try.ntmps54
              go_wp2_with (first | (go_at_call 64; refine HES.out.mono ?_; rintro e w' ⟨rfl, rfl⟩) | (go_at_call 65; refine HJ.out.mono ?_; rintro e w' ⟨rfl, rfl⟩))
              all_goals (go_ret3; exact Ret.mk rfl)
            · go_enter Try.func54, Try.ntmps54
              go_wp2_with (first | (go_at_call 64; refine HES.out.mono ?_; rintro e w' ⟨rfl, rfl⟩) | (go_at_call 65; refine HJ.out.mono ?_; rintro e w' ⟨rfl, rfl⟩))
              all_goals (go_ret3; exact Ret.mk rfl)
          · have hn : n = 10 := by omega
            subst hn
            have hb2 : ∀ h : k + 9 < s.size, (s[k + 9]'h).toNat = B := hb1
            rcases hz' with hz' | ⟨hz', hz2⟩
            · omega
            · go_enter Try.func54, Try.ntmps54
              go_wp2_with (first | (go_at_call 64; refine HES.out.mono ?_; rintro e w' ⟨rfl, rfl⟩) | (go_at_call 65; refine HJ.out.mono ?_; rintro e w' ⟨rfl, rfl⟩))
              all_goals (go_ret3; exact Ret.mk rfl)

end Go.Proofs.Ythohmngckpjlbaa
