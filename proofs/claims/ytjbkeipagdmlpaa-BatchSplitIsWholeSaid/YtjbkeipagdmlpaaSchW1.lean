/- The walks over Name, of package schema and of the reference. -/
import Derived.Test.YtjbkeipagdmlpaaSch
namespace Go.SC
open Go.RowKit Go.VB Go.VL
theorem s_empty {s : ByteArray} (h : s.size = 0) : s = ⟨#[]⟩ := by
  apply ByteArray.ext
  apply Array.toList_inj.1
  exact List.eq_nil_of_length_eq_zero (by rw [size_list]; omega)
theorem s_full {s : ByteArray} (h : ¬ s.size = 0) : s.toList.isEmpty = false := by
  rw [ByteArray.toList_eq]
  cases hl : s.data.toList with
  | nil => rw [← size_list, hl] at h; exact absurd rfl h
  | cons _ _ => rfl
theorem snoc {p : Nat → Prop} {j : Nat} (h : ∀ k, k < j → p k) (hj : p j) : ∀ k, k < j + 1 → p k := fun k hk => by
  rcases Nat.lt_or_eq_of_le (Nat.le_of_lt_succ hk) with h1 | h1
  · exact h k h1
  · rw [h1]; exact hj
theorem none_below {p : Nat → Prop} : ∀ k, k < 0 → p k := fun k hk => absurd hk (Nat.not_lt_zero k)
theorem key_list : keyS.toList = [107, 101, 121] := by rw [ByteArray.toList_eq]; rfl
theorem key_ne {s : ByteArray} (h : ¬ s = keyS) : (s.toList == [107, 101, 121]) = false := by rw [← key_list]; exact text_ne h
theorem nm_low {i V : Nat} (h : lowN V = true) : nmN i V = true := by unfold nmN; rw [h]; rfl
theorem nm_zero {V : Nat} (h : lowN V = false) : nmN 0 V = false := by unfold nmN; rw [h]; rfl
theorem nm_more {i V : Nat} (h : lowN V = false) (hi : i ≠ 0) : nmN i V = (digN V || decide (V = 95)) := by unfold nmN; rw [h, decide_eq_true hi]; rfl
end Go.SC
namespace Go.Proofs.Ytjbkeipagdmlpaa
open Go.RowKit Go.VB Go.VL Go.SC
set_option linter.constructorNameAsVariable false
set_option maxRecDepth 100000 in
set_option maxHeartbeats 1000000 in
theorem isLetter_any (n : Nat) (w : World) : Calls Try.prog 73 #[.int .u8 (n : Int)] w (Ret (.bool (lowN n)) w) := by
  unfold lowN
  by_cases h1 : 97 ≤ n
  · by_cases h2 : n ≤ 122
    · rw [decide_eq_true ⟨h1, h2⟩]
      go_enter Try.func73, Try.ntmps73
      go_wp2
      go_ret
      exact Ret.mk (by simp; omega)
    · rw [decide_eq_false (fun h => h2 h.2)]
      go_enter Try.func73, Try.ntmps73
      go_wp2
      go_ret
      exact Ret.mk (by simp; omega)
  · rw [decide_eq_false (fun h => h1 h.1)]
    go_enter Try.func73, Try.ntmps73
    go_wp2
    go_ret
    exact Ret.mk rfl
set_option maxRecDepth 100000 in
set_option maxHeartbeats 1000000 in
theorem isDigit_any (n : Nat) (w : World) : Calls Try.prog 74 #[.int .u8 (n : Int)] w (Ret (.bool (digN n)) w) := by
  unfold digN
  by_cases h1 : 48 ≤ n
  · by_cases h2 : n ≤ 57
    · rw [decide_eq_true ⟨h1, h2⟩]
      go_enter Try.func74, Try.ntmps74
      go_wp2
      go_ret
      exact Ret.mk (by simp; omega)
    · rw [decide_eq_false (fun h => h2 h.2)]
      go_enter Try.func74, Try.ntmps74
      go_wp2
      go_ret
      exact Ret.mk (by simp; omega)
  · rw [decide_eq_false (fun h => h1 h.1)]
    go_enter Try.func74, Try.ntmps74
    go_wp2
    go_ret
    exact Ret.mk rfl
set_option maxRecDepth 100000 in
set_option maxHeartbeats 2000000 in
theorem name_any (s : ByteArray) (w : World) : Calls Try.prog 67 #[.string s] w (Ret (.bool (nameS s)) w) := by
  by_cases h0 : s.size = 0
  · have hv := nameS_f1 (s := s) (fun h => by omega)
    obtain rfl := s_empty h0
    rw [hv]; clear hv h0
    go_enter Try.func67, Try.ntmps67
    go_wp2
    go_ret
    exact Ret.mk rfl
  have hne := s_full h0
  by_cases h16 : 16 < s.size
  · have hv := nameS_f1 (s := s) (fun h => by omega)
    rw [hv]; clear hv
    go_enter Try.func67, Try.ntmps67
    go_wp2
    go_ret
    exact Ret.mk rfl
  by_cases hk : s = keyS
  · have hv := nameS_f1 (s := s) (fun h => h.2.2 hk)
    subst hk
    rw [hv]; clear hv h0 h16 hne
    unfold keyS
    go_enter Try.func67, Try.ntmps67
    go_wp2
    go_ret
    exact Ret.mk rfl
  have hkn := key_ne hk
  have HT := Lib.hid (nameS_t (s := s) ⟨by omega, by omega, hk⟩)
  have HF := fun i => Lib.hid (nameS_f2 (s := s) (i := i))
  have hb := get_bN s
  clear hk
  have HL := fun n w => Lib.hid (isLetter_any n w)
  have HD := fun n w => Lib.hid (isDigit_any n w)
  go_enter Try.func67, Try.ntmps67
  go_wp2_with fail
  go_loop [2, 3, 17] (fun r i j => ∃ k : Nat, r = .bool false ∧ j = .int .i64 k ∧ k ≤ s.size ∧ ∀ m, m < k → nmN m (bN s m) = true) (fun _ _ j => s.size - (intOf j).toNat)
  case atStart => exact ⟨0, rfl, rfl, Nat.zero_le _, none_below⟩
  case round =>
    obtain ⟨k, rfl, rfl, hk, hf⟩ := hrel
    have HP := Lib.hid hf; clear hf
    by_cases hlt : k < s.size
    · have hgk := hb k
      have HFk := fun h => Lib.hid ((HF k).out hlt h)
      have HN := fun h => Lib.hid (snoc (p := fun m => nmN m (bN s m) = true) (j := k) HP.out h)
      have hbl := bN_lt s k
      clear HF HT HP hne hkn hb
      generalize bN s k = V at *
      cases hl : lowN V with
      | true =>
        have HE := HN (nm_low hl)
        have HLk := fun w => Lib.hid (show Calls Try.prog 73 #[.int .u8 (V : Int)] w (Ret (.bool true) w) from by have := (HL V w).out; rwa [hl] at this)
        clear hl HN HFk HL
        go_wp2_with (first | (go_at_call 73; (with_reducible refine (HLk _).out.mono ?_); rintro e w' ⟨rfl, rfl⟩))
        go_round
        case rel => exact ⟨k + 1, rfl, by go_num, hlt, HE.out⟩
        case measure => simp [intOf] <;> omega
      | false =>
        have HLk := fun w => Lib.hid (show Calls Try.prog 73 #[.int .u8 (V : Int)] w (Ret (.bool false) w) from by have := (HL V w).out; rwa [hl] at this)
        by_cases hk0 : k = 0
        · subst hk0
          have HE := HFk (nm_zero hl)
          clear hl HN HFk HL
          go_wp2_with (first | (go_at_call 73; (with_reducible refine (HLk _).out.mono ?_); rintro e w' ⟨rfl, rfl⟩))
          go_ret
          exact Ret.mk (congrArg Value.bool HE.out.symm)
        · have hk0' : ((k : Int) == 0) = false := ieq_f (by omega)
          have hm := nm_more hl hk0
          have HDk := fun w => Lib.hid (HD V w).out
          cases hd : digN V with
          | true =>
            rw [hd] at hm HDk
            have HE := HN hm
            clear hl HN HFk HL hm hd
            go_wp2_with (first | (go_at_call 73; (with_reducible refine (HLk _).out.mono ?_); rintro e w' ⟨rfl, rfl⟩) | (go_at_call 74; (with_reducible refine (HDk _).out.mono ?_); rintro e w' ⟨rfl, rfl⟩))
            go_round
            case rel => exact ⟨k + 1, rfl, by go_num, hlt, HE.out⟩
            case measure => simp [intOf] <;> omega
          | false =>
            rw [hd, Bool.false_or] at hm
            rw [hd] at HDk
            by_cases h95 : V = 95
            · have HE := HN (hm.trans (decide_eq_true h95))
              have h95' : ((V : Int) != 95) = false := ine_f (by omega)
              clear hl HN HFk HL hm hd h95
              go_wp2_with (first | (go_at_call 73; (with_reducible refine (HLk _).out.mono ?_); rintro e w' ⟨rfl, rfl⟩) | (go_at_call 74; (with_reducible refine (HDk _).out.mono ?_); rintro e w' ⟨rfl, rfl⟩))
              go_round
              case rel => exact ⟨k + 1, rfl, by go_num, hlt, HE.out⟩
              case measure => simp [intOf] <;> omega
            · have HE := HFk (hm.trans (decide_eq_false h95))
              have h95' : ((V : Int) != 95) = true := ine_t (by omega)
              clear hl HN HFk HL hm hd h95
              go_wp2_with (first | (go_at_call 73; (with_reducible refine (HLk _).out.mono ?_); rintro e w' ⟨rfl, rfl⟩) | (go_at_call 74; (with_reducible refine (HDk _).out.mono ?_); rintro e w' ⟨rfl, rfl⟩))
              go_ret
              exact Ret.mk (congrArg Value.bool HE.out.symm)
    · have HE := Lib.hid (HT.out (fun i hi => HP.out i (by omega)))
      clear HT HF HL HD HP
      go_wp2
      go_ret
      exact Ret.mk (congrArg Value.bool HE.out.symm)
set_option maxRecDepth 100000 in
set_option maxHeartbeats 2000000 in
theorem rname_any (s : ByteArray) (w : World) : Calls Try.prog 59 #[.string s] w (Ret (.bool (nameS s)) w) := by
  by_cases h0 : s.size = 0
  · have hv := nameS_f1 (s := s) (fun h => by omega)
    obtain rfl := s_empty h0
    rw [hv]; clear hv h0
    go_enter Try.func59, Try.ntmps59
    go_wp2
    go_ret
    exact Ret.mk rfl
  by_cases h16 : 16 < s.size
  · have hv := nameS_f1 (s := s) (fun h => by omega)
    rw [hv]; clear hv
    go_enter Try.func59, Try.ntmps59
    go_wp2
    go_ret
    exact Ret.mk rfl
  by_cases hk : s = keyS
  · have hv := nameS_f1 (s := s) (fun h => h.2.2 hk)
    subst hk
    rw [hv]; clear hv h0 h16
    unfold keyS
    go_enter Try.func59, Try.ntmps59
    go_wp2
    go_ret
    exact Ret.mk rfl
  have hkn := key_ne hk
  have HT := Lib.hid (nameS_t (s := s) ⟨by omega, by omega, hk⟩)
  have HF := fun i => Lib.hid (nameS_f2 (s := s) (i := i))
  have hb := get_bN s
  clear hk
  go_enter Try.func59, Try.ntmps59
  go_wp2_with fail
  go_loop [2, 3, 4] (fun r j _ => ∃ k : Nat, r = .bool false ∧ j = .int .i64 k ∧ k ≤ s.size ∧ ∀ m, m < k → nmN m (bN s m) = true) (fun _ j _ => s.size - (intOf j).toNat)
  case atStart => exact ⟨0, rfl, rfl, Nat.zero_le _, none_below⟩
  case round =>
    obtain ⟨k, rfl, rfl, hk, hf⟩ := hrel
    have HP := Lib.hid hf; clear hf
    by_cases hlt : k < s.size
    · have hgk := hb k
      have HFk := fun h => Lib.hid ((HF k).out hlt h)
      have HN := fun h => Lib.hid (snoc (p := fun m => nmN m (bN s m) = true) (j := k) HP.out h)
      have hbl := bN_lt s k
      clear HF HT HP hkn hb
      generalize bN s k = V at *
      by_cases ha : 97 ≤ V
      · by_cases hz : V ≤ 122
        · have HE := HN (nm_low (decide_eq_true ⟨ha, hz⟩))
          clear HN HFk
          go_wp2
          go_round
          case rel => exact ⟨k + 1, rfl, by go_num, hlt, HE.out⟩
          case measure => simp [intOf] <;> omega
        · have hl : lowN V = false := decide_eq_false (fun h => hz h.2)
          have hd1 : ((V : Int) != 95) = true := ine_t (by omega)
          have hd2 : decide ((V : Int) ≤ 122) = false := decide_eq_false (by omega)
          have hd3 : decide (57 < (V : Int)) = true := decide_eq_true (by omega)
          have HE := HFk (by
            by_cases h0 : k = 0
            · rw [h0]; exact nm_zero hl
            · rw [nm_more hl h0, show digN V = false from decide_eq_false (by omega), decide_eq_false (by omega)]; rfl)
          clear HN HFk hl
          by_cases hk0 : k = 0
          · subst hk0
            go_wp2
            go_ret
            exact Ret.mk (congrArg Value.bool HE.out.symm)
          · have hk0' : ((k : Int) == 0) = false := ieq_f (by omega)
            go_wp2
            go_ret
            exact Ret.mk (congrArg Value.bool HE.out.symm)
      · have hl : lowN V = false := decide_eq_false (fun h => ha h.1)
        by_cases hk0 : k = 0
        · subst hk0
          have HE := HFk (nm_zero hl)
          clear HN HFk hl
          go_wp2
          go_ret
          exact Ret.mk (congrArg Value.bool HE.out.symm)
        · have hk0' : ((k : Int) == 0) = false := ieq_f (by omega)
          have hm := nm_more hl hk0
          by_cases h95 : V = 95
          · have HE := HN (hm.trans (by rw [decide_eq_true h95, Bool.or_true]))
            have h95' : ((V : Int) != 95) = false := ine_f (by omega)
            clear HN HFk hl hm h95
            go_wp2
            go_round
            case rel => exact ⟨k + 1, rfl, by go_num, hlt, HE.out⟩
            case measure => simp [intOf] <;> omega
          · have h95' : ((V : Int) != 95) = true := ine_t (by omega)
            rw [decide_eq_false h95, Bool.or_false] at hm
            by_cases h48 : V < 48
            · have HE := HFk (hm.trans (decide_eq_false (by omega)))
              clear HN HFk hl hm h95
              go_wp2
              go_ret
              exact Ret.mk (congrArg Value.bool HE.out.symm)
            · by_cases h57 : 57 < V
              · have HE := HFk (hm.trans (decide_eq_false (by omega)))
                clear HN HFk hl hm h95
                go_wp2
                go_ret
                exact Ret.mk (congrArg Value.bool HE.out.symm)
              · have HE := HN (hm.trans (decide_eq_true (by omega)))
                clear HN HFk hl hm h95
                go_wp2
                go_round
                case rel => exact ⟨k + 1, rfl, by go_num, hlt, HE.out⟩
                case measure => simp [intOf] <;> omega
    · have HE := Lib.hid (HT.out (fun i hi => HP.out i (by omega)))
      clear HT HF HP
      go_wp2
      go_ret
      exact Ret.mk (congrArg Value.bool HE.out.symm)
end Go.Proofs.Ytjbkeipagdmlpaa
