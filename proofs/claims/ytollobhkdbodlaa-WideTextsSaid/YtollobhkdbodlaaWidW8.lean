/- The walks over package wide: isDecimal, exceeds. -/
import Derived.Test.YtollobhkdbodlaaWid2
import Derived.Test.YtollobhkdbodlaaValV
namespace Go.WD
open Go.RowKit Go.VB Go.DT Go.DC
theorem is_empty {s : ByteArray} (h : s.size = 0) : s.toList.isEmpty = true := by
  rw [ByteArray.toList_eq]
  have : s.data.toList = [] := List.eq_nil_of_length_eq_zero (by rw [size_list]; exact h)
  rw [this]; rfl
theorem ne_empty {s : ByteArray} (h : ¬ s.size = 0) : s.toList.isEmpty = false := by
  rw [ByteArray.toList_eq]
  cases hl : s.data.toList with
  | nil => rw [← size_list, hl] at h; exact absurd rfl h
  | cons _ _ => rfl
theorem lit48 : (⟨#[48]⟩ : ByteArray).toList = [48] := by rw [ByteArray.toList_eq]
theorem zero_t {s : ByteArray} (h : s = ⟨#[48]⟩) : (s.toList == [48]) = true := by have := text_eq h; rw [lit48] at this; exact this
theorem zero_f {s : ByteArray} (h : ¬ s = ⟨#[48]⟩) : (s.toList == [48]) = false := by have := text_ne h; rw [lit48] at this; exact this
theorem snocD {p : Nat → Prop} {j : Nat} (h : ∀ k, k < j → p k) (hj : p j) : ∀ k, k < j + 1 → p k := fun k hk => by
  rcases Nat.lt_or_eq_of_le (Nat.le_of_lt_succ hk) with h1 | h1
  · exact h k h1
  · rw [h1]; exact hj
end Go.WD
namespace Go.Proofs.Ytollobhkdbodlaa
open Go.RowKit Go.VB Go.WD Go.DT Go.DC
set_option maxRecDepth 100000 in
set_option maxHeartbeats 2000000 in
theorem wdecimal_any (s : ByteArray) (w : World) (zs : s.size ≤ 140737488351232) : Calls Try.prog 29 #[.string s] w (Ret (.bool (decide (isD s))) w) := by
  have hg := get_bN s
  go_enter Try.func29, Try.ntmps29
  go_wp2
  go_loop [6] (fun i => ∃ j : Nat, i = .int .i64 j ∧ j ≤ s.size ∧ ∀ k, k < j → dig (bN s k)) (fun i => s.size - (intOf i).toNat)
  case atStart => exact ⟨0, rfl, Nat.zero_le _, fun k hk => absurd hk (Nat.not_lt_zero k)⟩
  case round =>
    obtain ⟨j, rfl, hj, hf⟩ := hrel
    have HF := Lib.hid hf; clear hf
    by_cases hlt : j < s.size
    · have hix : bN s j < 256 := bN_lt s j
      generalize gV : bN s j = V at *
      have GV := Lib.hid gV
      by_cases h1 : V < 48
      · have hD := Lib.hid (decide_eq_false (fun h : isD s => by have := h.1 j hlt; unfold dig at this; omega))
        go_wp2
        go_ret
        exact Ret.mk (by rw [hD.out]; rfl)
      by_cases h2 : 57 < V
      · have hD := Lib.hid (decide_eq_false (fun h : isD s => by have := h.1 j hlt; unfold dig at this; omega))
        go_wp2
        go_ret
        exact Ret.mk (by rw [hD.out]; rfl)
      · go_wp2
        exact ⟨⟨j + 1, by go_num, by omega, snocD HF.out (by rw [GV.out]; unfold dig; omega)⟩, by simp [intOf] <;> omega⟩
    · obtain rfl : j = s.size := by omega
      clear hlt hj
      have hdig : digsT s := HF.out
      clear HF
      have HDg := Lib.hid hdig; clear hdig
      by_cases hz : s = ⟨#[48]⟩
      · have ht := zero_t hz
        have hD := Lib.hid (decide_eq_true (p := isD s) (by rw [hz]; decide))
        clear hz
        go_wp2
        go_ret
        exact Ret.mk (by rw [hD.out]; rfl)
      have ht := zero_f hz
      by_cases h0 : s.size = 0
      · have he := is_empty h0
        have hD := Lib.hid (decide_eq_false (fun h : isD s => by have := h.2.1; omega))
        clear hz h0
        go_wp2
        go_ret
        exact Ret.mk (by rw [hD.out]; rfl)
      have he := ne_empty h0
      have hpos : 0 < s.size := by omega
      have hz2 := fun h => hz (zero_text.2 h)
      clear hz h0
      have HZ2 := Lib.hid hz2; clear hz2
      have hix : bN s 0 < 256 := bN_lt s 0
      generalize gV : bN s 0 = V at *
      have GV := Lib.hid gV
      by_cases h1 : V = 48
      · have hD := Lib.hid (decide_eq_false (fun h : isD s => HZ2.out ⟨h.2.2 (GV.out.trans h1), h1⟩))
        subst h1
        go_wp2
        go_ret
        exact Ret.mk (by rw [hD.out]; rfl)
      · have hD := Lib.hid (decide_eq_true (p := isD s) ⟨HDg.out, hpos, fun h => absurd (GV.out.symm.trans h) h1⟩)
        have hd2 : ((V : Int) != 48) = true := bne_iff_ne.2 (by omega)
        clear h1
        go_wp2
        go_ret
        exact Ret.mk (by rw [hD.out]; rfl)
set_option maxRecDepth 100000 in
set_option maxHeartbeats 2000000 in
theorem wexceeds_any (s t : ByteArray) (m : Nat) (w : World) (zs : s.size ≤ 140737488351232) (hD : isD s) (ht : t = str (by8 (dg m 39))) (h1 : 100000000000000000000000000000000000000 ≤ m) (h2 : m < 1000000000000000000000000000000000000000) :
    Calls Try.prog 30 #[.string s, .string t] w (Ret (.bool (decide (m < vl s))) w) := by
  have hts : t.size = 39 := by rw [ht, str_size, by8_len, dg_len]
  by_cases hs : s.size = 39
  · have hl := more_digits hD.1 h2 hs ht
    have HL := Lib.hid hl; clear hl
    have e1 : ((s.size : Int) != (t.size : Int)) = false := by rw [hs, hts]; rfl
    clear hs hts ht hD h1 h2
    rw [← HL.out]
    go_enter Try.func30, Try.ntmps30
    go_wp2
    go_ret
    exact Ret.mk rfl
  · have hx := size_digits hD h1 h2 hs
    have e1 : ((s.size : Int) != (t.size : Int)) = true := bne_iff_ne.2 (by omega)
    have e2 : decide (m < vl s) = decide (t.size < s.size) := by rw [Bool.eq_iff_iff, decide_eq_true_iff, decide_eq_true_iff, hx]; omega
    rw [e2]
    clear e2 hx hs hts ht hD h1 h2
    go_enter Try.func30, Try.ntmps30
    go_wp2
    go_ret
    exact Ret.mk rfl
end Go.Proofs.Ytollobhkdbodlaa
