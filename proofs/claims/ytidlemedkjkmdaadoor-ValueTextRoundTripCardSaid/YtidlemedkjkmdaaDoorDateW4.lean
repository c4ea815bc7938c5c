/- The walks over package date and its reference: reading a day's text. -/
import Derived.Test.YtidlemedkjkmdaaDoorDateW2
import Derived.Test.YtidlemedkjkmdaaDoorDateT
import Derived.BigQuiet
namespace Go.Proofs.YtidlemedkjkmdaaDoor
open Go.RowKit Go.VB Go.DT
theorem snoc {p : Nat → Prop} {j : Nat} (h : ∀ k, k < j → p k) (hj : p j) : ∀ k, k < j + 1 → p k := fun k hk => by
  rcases Nat.lt_or_eq_of_le (Nat.le_of_lt_succ hk) with h1 | h1
  · exact h k h1
  · rw [h1]; exact hj
set_option maxRecDepth 100000 in
set_option maxHeartbeats 2000000 in
theorem layout_any (s : ByteArray) (w : World) (zs : s.size ≤ 140737488351232) : Calls Tryd.prog 64 #[.string s] w (Ret (.bool (decide (form s))) w) := by
  have hb := get_bN s
  by_cases hz : s.size = 10
  · have HF : form s ↔ ∀ i, i < 10 → fits s i := ⟨fun h => h.2, fun h => ⟨hz, h⟩⟩
    have HFF := Lib.hid HF; clear HF
    have hd : ((s.size : Int) != 10) = false := by rw [hz]; rfl
    have hz1 : s.size ≤ 10 := by omega
    have hz2 : 10 ≤ s.size := by omega
    clear hz
    go_enter Tryd.func64, Tryd.ntmps64
    go_wp2
    go_loop [9] (fun i => ∃ j : Nat, i = .int .i64 j ∧ j ≤ 10 ∧ ∀ k, k < j → fits s k) (fun i => 10 - (intOf i).toNat)
    case atStart => exact ⟨0, rfl, by decide, fun k hk => absurd hk (Nat.not_lt_zero k)⟩
    case round =>
      obtain ⟨j, rfl, hj, hf⟩ := hrel
      have HFJ := Lib.hid hf; clear hf
      have hc : j = 4 ∨ j = 7 ∨ j = 10 ∨ j = 0 ∨ j = 1 ∨ j = 2 ∨ j = 3 ∨ j = 5 ∨ j = 6 ∨ j = 8 ∨ j = 9 := by omega
      clear hj
      rcases hc with rfl | rfl | rfl | rfl | rfl | rfl | rfl | rfl | rfl | rfl | rfl
      · have hfit := fits_hyp (s := s) (i := 4) (by decide)
        have hix : bN s 4 < 256 := bN_lt s 4
        generalize hgen : bN s 4 = V at *
        have HG := Lib.hid hgen
        have HT := Lib.hid hfit; clear hfit
        by_cases hV : V = 45
        · have HV := Lib.hid hV
          have hgen2 : bN s 4 = 45 := by rw [hgen, hV]
          clear hV hgen
          go_wp2
          exact ⟨⟨4 + 1, by go_num, by decide, snoc HFJ.out (HT.out.2 HV.out)⟩, by simp [intOf]⟩
        · have hd2 : ((V : Int) != 45) = true := bne_iff_ne.2 (by omega)
          have HV := Lib.hid hV; clear hV
          go_wp2
          go_ret
          exact Ret.mk (by rw [decide_eq_false (not_form (i := 4) (by decide) fun h => HV.out (HT.out.1 h))]; rfl)
      · have hfit := fits_hyp (s := s) (i := 7) (by decide)
        have hix : bN s 7 < 256 := bN_lt s 7
        generalize hgen : bN s 7 = V at *
        have HG := Lib.hid hgen
        have HT := Lib.hid hfit; clear hfit
        by_cases hV : V = 45
        · have HV := Lib.hid hV
          have hgen2 : bN s 7 = 45 := by rw [hgen, hV]
          clear hV hgen
          go_wp2
          exact ⟨⟨7 + 1, by go_num, by decide, snoc HFJ.out (HT.out.2 HV.out)⟩, by simp [intOf]⟩
        · have hd2 : ((V : Int) != 45) = true := bne_iff_ne.2 (by omega)
          have HV := Lib.hid hV; clear hV
          go_wp2
          go_ret
          exact Ret.mk (by rw [decide_eq_false (not_form (i := 7) (by decide) fun h => HV.out (HT.out.1 h))]; rfl)
      · go_wp2
        go_ret
        exact Ret.mk (by rw [decide_eq_true (HFF.out.2 HFJ.out)]; rfl)
      · have hfit := fits_num (s := s) (i := 0) (by decide)
        have hix : bN s 0 < 256 := bN_lt s 0
        generalize hgen : bN s 0 = V at *
        have HG := Lib.hid hgen
        have HT := Lib.hid hfit; clear hfit
        by_cases hV1 : V < 48
        · go_wp2
          go_ret
          exact Ret.mk (by rw [decide_eq_false (not_form (i := 0) (by decide) fun h => by have := (HT.out.1 h).1; omega)]; rfl)
        by_cases hV2 : 57 < V
        · go_wp2
          go_ret
          exact Ret.mk (by rw [decide_eq_false (not_form (i := 0) (by decide) fun h => by have := (HT.out.1 h).2; omega)]; rfl)
        · go_wp2
          exact ⟨⟨0 + 1, by go_num, by decide, snoc HFJ.out (HT.out.2 ⟨by omega, by omega⟩)⟩, by simp [intOf]⟩
      · have hfit := fits_num (s := s) (i := 1) (by decide)
        have hix : bN s 1 < 256 := bN_lt s 1
        generalize hgen : bN s 1 = V at *
        have HG := Lib.hid hgen
        have HT := Lib.hid hfit; clear hfit
        by_cases hV1 : V < 48
        · go_wp2
          go_ret
          exact Ret.mk (by rw [decide_eq_false (not_form (i := 1) (by decide) fun h => by have := (HT.out.1 h).1; omega)]; rfl)
        by_cases hV2 : 57 < V
        · go_wp2
          go_ret
          exact Ret.mk (by rw [decide_eq_false (not_form (i := 1) (by decide) fun h => by have := (HT.out.1 h).2; omega)]; rfl)
        · go_wp2
          exact ⟨⟨1 + 1, by go_num, by decide, snoc HFJ.out (HT.out.2 ⟨by omega, by omega⟩)⟩, by simp [intOf]⟩
      · have hfit := fits_num (s := s) (i := 2) (by decide)
        have hix : bN s 2 < 256 := bN_lt s 2
        generalize hgen : bN s 2 = V at *
        have HG := Lib.hid hgen
        have HT := Lib.hid hfit; clear hfit
        by_cases hV1 : V < 48
        · go_wp2
          go_ret
          exact Ret.mk (by rw [decide_eq_false (not_form (i := 2) (by decide) fun h => by have := (HT.out.1 h).1; omega)]; rfl)
        by_cases hV2 : 57 < V
        · go_wp2
          go_ret
          exact Ret.mk (by rw [decide_eq_false (not_form (i := 2) (by decide) fun h => by have := (HT.out.1 h).2; omega)]; rfl)
        · go_wp2
          exact ⟨⟨2 + 1, by go_num, by decide, snoc HFJ.out (HT.out.2 ⟨by omega, by omega⟩)⟩, by simp [intOf]⟩
      · have hfit := fits_num (s := s) (i := 3) (by decide)
        have hix : bN s 3 < 256 := bN_lt s 3
        generalize hgen : bN s 3 = V at *
        have HG := Lib.hid hgen
        have HT := Lib.hid hfit; clear hfit
        by_cases hV1 : V < 48
        · go_wp2
          go_ret
          exact Ret.mk (by rw [decide_eq_false (not_form (i := 3) (by decide) fun h => by have := (HT.out.1 h).1; omega)]; rfl)
        by_cases hV2 : 57 < V
        · go_wp2
          go_ret
          exact Ret.mk (by rw [decide_eq_false (not_form (i := 3) (by decide) fun h => by have := (HT.out.1 h).2; omega)]; rfl)
        · go_wp2
          exact ⟨⟨3 + 1, by go_num, by decide, snoc HFJ.out (HT.out.2 ⟨by omega, by omega⟩)⟩, by simp [intOf]⟩
      · have hfit := fits_num (s := s) (i := 5) (by decide)
        have hix : bN s 5 < 256 := bN_lt s 5
        generalize hgen : bN s 5 = V at *
        have HG := Lib.hid hgen
        have HT := Lib.hid hfit; clear hfit
        by_cases hV1 : V < 48
        · go_wp2
          go_ret
          exact Ret.mk (by rw [decide_eq_false (not_form (i := 5) (by decide) fun h => by have := (HT.out.1 h).1; omega)]; rfl)
        by_cases hV2 : 57 < V
        · go_wp2
          go_ret
          exact Ret.mk (by rw [decide_eq_false (not_form (i := 5) (by decide) fun h => by have := (HT.out.1 h).2; omega)]; rfl)
        · go_wp2
          exact ⟨⟨5 + 1, by go_num, by decide, snoc HFJ.out (HT.out.2 ⟨by omega, by omega⟩)⟩, by simp [intOf]⟩
      · have hfit := fits_num (s := s) (i := 6) (by decide)
        have hix : bN s 6 < 256 := bN_lt s 6
        generalize hgen : bN s 6 = V at *
        have HG := Lib.hid hgen
        have HT := Lib.hid hfit; clear hfit
        by_cases hV1 : V < 48
        · go_wp2
          go_ret
          exact Ret.mk (by rw [decide_eq_false (not_form (i := 6) (by decide) fun h => by have := (HT.out.1 h).1; omega)]; rfl)
        by_cases hV2 : 57 < V
        · go_wp2
          go_ret
          exact Ret.mk (by rw [decide_eq_false (not_form (i := 6) (by decide) fun h => by have := (HT.out.1 h).2; omega)]; rfl)
        · go_wp2
          exact ⟨⟨6 + 1, by go_num, by decide, snoc HFJ.out (HT.out.2 ⟨by omega, by omega⟩)⟩, by simp [intOf]⟩
      · have hfit := fits_num (s := s) (i := 8) (by decide)
        have hix : bN s 8 < 256 := bN_lt s 8
        generalize hgen : bN s 8 = V at *
        have HG := Lib.hid hgen
        have HT := Lib.hid hfit; clear hfit
        by_cases hV1 : V < 48
        · go_wp2
          go_ret
          exact Ret.mk (by rw [decide_eq_false (not_form (i := 8) (by decide) fun h => by have := (HT.out.1 h).1; omega)]; rfl)
        by_cases hV2 : 57 < V
        · go_wp2
          go_ret
          exact Ret.mk (by rw [decide_eq_false (not_form (i := 8) (by decide) fun h => by have := (HT.out.1 h).2; omega)]; rfl)
        · go_wp2
          exact ⟨⟨8 + 1, by go_num, by decide, snoc HFJ.out (HT.out.2 ⟨by omega, by omega⟩)⟩, by simp [intOf]⟩
      · have hfit := fits_num (s := s) (i := 9) (by decide)
        have hix : bN s 9 < 256 := bN_lt s 9
        generalize hgen : bN s 9 = V at *
        have HG := Lib.hid hgen
        have HT := Lib.hid hfit; clear hfit
        by_cases hV1 : V < 48
        · go_wp2
          go_ret
          exact Ret.mk (by rw [decide_eq_false (not_form (i := 9) (by decide) fun h => by have := (HT.out.1 h).1; omega)]; rfl)
        by_cases hV2 : 57 < V
        · go_wp2
          go_ret
          exact Ret.mk (by rw [decide_eq_false (not_form (i := 9) (by decide) fun h => by have := (HT.out.1 h).2; omega)]; rfl)
        · go_wp2
          exact ⟨⟨9 + 1, by go_num, by decide, snoc HFJ.out (HT.out.2 ⟨by omega, by omega⟩)⟩, by simp [intOf]⟩
  · have HF := decide_eq_false (fun h : form s => hz h.1)
    have hd : ((s.size : Int) != 10) = true := by simp; omega
    rw [HF]
    clear hz HF
    go_enter Tryd.func64, Tryd.ntmps64
    go_wp2
    go_ret
    exact Ret.mk rfl
set_option maxRecDepth 100000 in
set_option maxHeartbeats 1000000 in
theorem number_any (s : ByteArray) (w : World) (zs : s.size ≤ 4) (hd : ∀ k, k < s.size → 48 ≤ bN s k ∧ bN s k ≤ 57) : Calls Tryd.prog 66 #[.string s] w (Ret (.int .i64 (nm s 0 s.size : Nat)) w) := by
  have hb := get_bN s
  have HD := Lib.hid hd; clear hd
  go_enter Tryd.func66, Tryd.ntmps66
  go_wp2
  go_loop [3, 7] (fun v i => ∃ j : Nat, v = .int .i64 (nm s 0 j : Nat) ∧ i = .int .i64 j ∧ j ≤ s.size) (fun _ i => s.size - (intOf i).toNat)
  case atStart => exact ⟨0, rfl, rfl, Nat.zero_le _⟩
  case round =>
    obtain ⟨j, rfl, rfl, hj⟩ := hrel
    have h1 := nm_lt s 0 j (by omega) (fun k hk => by rw [Nat.zero_add]; exact (HD.out k (by omega)).2)
    have h2 : nm s 0 j ≤ 10000 := by
      have := Nat.pow_le_pow_right (n := 10) (by decide) (show j ≤ 4 by omega)
      omega
    clear h1
    by_cases hlt : j < s.size
    · have hs := nm_succ s 0 j (by omega)
      rw [Nat.zero_add] at hs
      have hdj := HD.out j hlt
      generalize nm s 0 j = x at *
      have HS := Lib.hid hs; clear hs
      go_wp2
      go_round
      case rel => exact ⟨j + 1, by rw [HS.out]; go_num, by go_num, hlt⟩
      case measure => simp [intOf] <;> omega
    · have hj2 : j = s.size := by omega
      have HJ := Lib.hid hj2; clear hj2
      go_wp2
      go_ret
      exact Ret.mk (by rw [← HJ.out]; rfl)
end Go.Proofs.YtidlemedkjkmdaaDoor
