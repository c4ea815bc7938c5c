/- The walks over package decimal's reading of texts: digits, zeros, numbers. -/
import Derived.Test.YtidlemedkjkmdaaDoorDecT
import Derived.Test.YtidlemedkjkmdaaDoorDecW1
namespace Go.DC
open Go.VB Go.DT
theorem snoc {p : Nat → Prop} {j : Nat} (h : ∀ k, k < j → p k) (hj : p j) : ∀ k, k < j + 1 → p k := fun k hk => by
  rcases Nat.lt_or_eq_of_le (Nat.le_of_lt_succ hk) with h1 | h1
  · exact h k h1
  · rw [h1]; exact hj
theorem none_below {p : Nat → Prop} : ∀ k, k < 0 → p k := fun k hk => absurd hk (Nat.not_lt_zero k)
theorem not_dig_lo {b : Nat} (h : b < 48) : ¬ dig b := by unfold dig; omega
theorem not_dig_hi {b : Nat} (h : 57 < b) : ¬ dig b := by unfold dig; omega
theorem is_dig {b : Nat} (h : ¬ b < 48) (h2 : ¬ 57 < b) : dig b := by unfold dig; omega
end Go.DC
namespace Go.Proofs.YtidlemedkjkmdaaDoor
open Go.RowKit Go.VB Go.DT Go.DC
set_option maxRecDepth 100000 in
set_option maxHeartbeats 1000000 in
theorem count_any (s : ByteArray) (w : World) (zs : s.size ≤ 140737488351232) : Calls Tryd.prog 79 #[.string s] w (Ret (.int .i64 (cd s : Nat)) w) := by
  have hb := get_bN s
  go_enter Tryd.func79, Tryd.ntmps79
  go_wp2
  go_loop [3] (fun i => ∃ j : Nat, i = .int .i64 j ∧ j ≤ s.size ∧ ∀ k, k < j → dig (bN s k)) (fun i => s.size - (intOf i).toNat)
  case atStart => exact ⟨0, rfl, Nat.zero_le _, none_below⟩
  case round =>
    obtain ⟨j, rfl, hj, hf⟩ := hrel
    have HF := Lib.hid hf; clear hf
    by_cases hlt : j < s.size
    · have hix := bN_lt s j
      have HE := fun h => Lib.hid (cd_eq (t := s) (j := j) hj HF.out (.inr h))
      have HN := fun h => Lib.hid (snoc (p := fun k => dig (bN s k)) (j := j) HF.out h)
      have hgj := hb j
      generalize hV : bN s j = V at *
      have HV := Lib.hid hV
      by_cases h1 : V < 48
      · have he := HE (not_dig_lo h1)
        clear HE HN
        go_wp2
        go_ret
        exact Ret.mk (vint (by rw [he.out]))
      by_cases h2 : 57 < V
      · have he := HE (not_dig_hi h2)
        clear HE HN
        go_wp2
        go_ret
        exact Ret.mk (vint (by rw [he.out]))
      have he := HN (is_dig h1 h2)
      clear HE HN
      go_wp2
      go_round
      case rel => exact ⟨j + 1, by go_num, hlt, he.out⟩
      case measure => simp [intOf] <;> omega
    · have he := Lib.hid (cd_eq (t := s) (j := j) hj HF.out (.inl (by omega)))
      go_wp2
      go_ret
      exact Ret.mk (vint (by rw [he.out]))
set_option maxRecDepth 100000 in
set_option maxHeartbeats 1000000 in
theorem isz_any (s : ByteArray) (w : World) (zs : s.size ≤ 140737488351232) : Calls Tryd.prog 80 #[.string s] w (Ret (.bool (allz s)) w) := by
  have hb := get_bN s
  go_enter Tryd.func80, Tryd.ntmps80
  go_wp2
  go_loop [6] (fun i => ∃ j : Nat, i = .int .i64 j ∧ j ≤ s.size ∧ ∀ k, k < j → bN s k = 48) (fun i => s.size - (intOf i).toNat)
  case atStart => exact ⟨0, rfl, Nat.zero_le _, none_below⟩
  case round =>
    obtain ⟨j, rfl, hj, hf⟩ := hrel
    have HF := Lib.hid hf; clear hf
    by_cases hlt : j < s.size
    · have hix := bN_lt s j
      have HE := fun h => Lib.hid (allz_false (t := s) (k := j) hlt h)
      have HN := fun h => Lib.hid (snoc (p := fun k => bN s k = 48) (j := j) HF.out h)
      have hgj := hb j
      by_cases h1 : bN s j = 48
      · have he := HN h1
        have hd : ((bN s j : Int) != 48) = false := by rw [h1]; rfl
        have H1 := Lib.hid h1
        clear HE HN h1
        generalize hV : bN s j = V at *
        go_wp2
        go_round
        case rel => exact ⟨j + 1, by go_num, hlt, he.out⟩
        case measure => simp [intOf] <;> omega
      · have he := HE h1
        have hd : ((bN s j : Int) != 48) = true := bne_iff_ne.2 (by omega)
        clear HE HN h1
        generalize hV : bN s j = V at *
        go_wp2
        go_ret
        exact Ret.mk (congrArg Value.bool (by rw [he.out]))
    · have he := Lib.hid (allz_true (t := s) (fun k hk => HF.out k (by omega)))
      go_wp2
      go_ret
      exact Ret.mk (congrArg Value.bool (by rw [he.out]))
/-- What numberOf returns. -/
def vlN (s : ByteArray) : Nat := if vl s ≤ 999999999999999999 then vl s else 0
set_option maxRecDepth 100000 in
set_option maxHeartbeats 1000000 in
theorem numof_any (s : ByteArray) (w : World) (zs : s.size ≤ 140737488351232) (hd : ∀ k, k < s.size → dig (bN s k)) : Calls Tryd.prog 68 #[.string s] w (Ret (.tuple #[.int .i64 (vlN s : Nat), .bool (decide (vl s ≤ 999999999999999999))]) w) := by
  have hb := get_bN s
  have HD := Lib.hid hd; clear hd
  go_enter Tryd.func68, Tryd.ntmps68
  go_wp2
  go_loop [2, 7] (fun n i => ∃ j : Nat, n = .int .i64 (nm s 0 j : Nat) ∧ i = .int .i64 j ∧ j ≤ s.size ∧ nm s 0 j ≤ 999999999999999999) (fun _ i => s.size - (intOf i).toNat)
  case atStart => exact ⟨0, rfl, rfl, Nat.zero_le _, Nat.zero_le _⟩
  case round =>
    obtain ⟨j, rfl, rfl, hj, hle⟩ := hrel
    by_cases hlt : j < s.size
    · have hix := HD.out j hlt
      unfold dig at hix
      have hs := nm_succ s 0 j (by omega)
      rw [Nat.zero_add] at hs
      have HB := fun h => Lib.hid (vl_big (t := s) hlt h)
      have hgj := hb j
      generalize hV : bN s j = V at *
      generalize nm s 0 j = x at *
      by_cases h1 : 99999999999999999 < x
      · have hbig := HB h1
        have hn : vlN s = 0 := if_neg (by have := hbig.out; omega)
        have hf : decide (vl s ≤ 999999999999999999) = false := decide_eq_false (by have := hbig.out; omega)
        rw [hn, hf]
        clear HB hn hf
        go_wp2
        go_ret2
        exact Ret.mk rfl
      · have HS := Lib.hid hs
        clear HB hs
        go_wp2
        go_round
        case rel => exact ⟨j + 1, by rw [HS.out]; go_num, by go_num, hlt, by rw [HS.out]; omega⟩
        case measure => simp [intOf] <;> omega
    · have hj2 : j = s.size := by omega
      have hv : vl s = nm s 0 j := by rw [hj2]; rfl
      have hn : vlN s = nm s 0 j := by unfold vlN; rw [hv, if_pos hle]
      have hf : decide (vl s ≤ 999999999999999999) = true := decide_eq_true (by rw [hv]; exact hle)
      have HNN := Lib.hid hn; have HFF := Lib.hid hf
      clear hj2 hv hn hf
      generalize nm s 0 j = x at *
      go_wp2
      go_ret2
      exact Ret.mk (by rw [HNN.out, HFF.out]; rfl)
end Go.Proofs.YtidlemedkjkmdaaDoor
