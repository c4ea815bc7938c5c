/- The walks over package crc and its reference: Sum and Join. -/
import Derived.Test.YtfkdenlpailmeaaDoorCrcW1
namespace Go.CR
open Go.VB
theorem feed_bN (t : List Nat) (v : Nat) {s : ByteArray} {j : Nat} (h : j < s.size) : feed t v (s.data.toList.take (j + 1)) = shb t (feed t v (s.data.toList.take j)) (bN s j) :=
  feed_take t v (by rw [size_list]; exact h)
theorem feed_all (t : List Nat) (v : Nat) (s : ByteArray) : feed t v (s.data.toList.take s.size) = feed t v s.data.toList := by rw [List.take_of_length_le (Nat.le_of_eq (size_list s))]
end Go.CR
namespace Go.Proofs.YtfkdenlpailmeaaDoor
open Go.RowKit Go.VB Go.CR
theorem xor_ix {x b : Nat} (hx : x < 256) (hb : b < 256) : bits .xor .u32 (x : Int) (b : Int) = ((x ^^^ b : Nat) : Int) := u32_xor_nat x b (by omega) (by omega)
theorem xor_ix8 {x b : Nat} (hx : x < 256) (hb : b < 256) : bits .xor .u8 (x : Int) (b : Int) = ((x ^^^ b : Nat) : Int) := u8_xor_nat x b hx hb
theorem xor_out {v y : Nat} (hv : v < 4294967296) (hy : y < 4294967296) : bits .xor .u32 ((v : Int) / 256) (y : Int) = ((v / 256 ^^^ y : Nat) : Int) := by
  have := u32_xor_nat (v / 256) y (by omega) hy
  simpa using this
theorem not32 {x : Nat} (hx : x < 4294967296) : bits .xor .u32 IntKind.u32.max (x : Int) = ((4294967295 - x : Nat) : Int) := by
  have h := u32_xor_nat 4294967295 x (by decide) hx
  have e : 4294967295 ^^^ x = 4294967295 - x := by
    apply Nat.eq_of_testBit_eq
    intro i
    have h1 := Nat.testBit_two_pow_sub_succ (n := 32) hx i
    rw [show (2 : Nat) ^ 32 - (x + 1) = 4294967295 - x from by omega] at h1
    rw [h1, Nat.testBit_xor, show (4294967295 : Nat) = 2 ^ 32 - 1 from rfl, Nat.testBit_two_pow_sub_one]
    by_cases hi : i < 32
    · simp [hi]
    · have : x.testBit i = false := Nat.testBit_lt_two_pow (Nat.lt_of_lt_of_le hx (Nat.pow_le_pow_right (n := 2) (i := 32) (by decide) (by omega)))
      simp [hi, this]
  rw [e] at h; exact h
set_option maxRecDepth 100000 in
set_option maxHeartbeats 400000 in
theorem shift_any (vt : Value) (t : List Nat) (v b : Nat) (w : World) (hr : RdN .u32 w w.heap.size vt t) (hl : t.length = 256) (ht : ∀ x ∈ t, x < 4294967296) (hv : v < 4294967296) (hb : b < 256) :
    Calls Tryd.prog 46 #[vt, .int .u32 (v : Int), .int .u8 (b : Int)] w (Ret (.int .u32 (shb t v b : Nat)) w) := by
  obtain ⟨A, c, rfl, hc1, hc2, hcell⟩ := hr
  have hm : v % 256 < 256 := Nat.mod_lt _ (by decide)
  have hi : v % 256 ^^^ b < 256 := xor_lt8 hm hb
  obtain ⟨ad, rfl, _, hc⟩ := hcell (v % 256 ^^^ b) (by rw [hl]; exact hi)
  clear hcell
  have hy := get_lt (i := v % 256 ^^^ b) ht
  have e1 := and255 hv
  have e2 := xor_ix hm hb
  have e3 := xor_out hv hy
  have hs : shb t v b = v / 256 ^^^ t.getD (v % 256 ^^^ b) 0 := rfl
  have HS := Lib.hid hs; clear hs
  generalize v % 256 = x at *
  generalize x ^^^ b = i at *
  generalize t.getD i 0 = y at *
  have HL := Lib.hid hl; clear hl ht
  rw [HL.out] at hc1 ⊢
  go_enter Tryd.func46, Tryd.ntmps46
  go_wp2
  go_ret
  exact Ret.mk (by rw [HS.out]; rfl)
set_option maxRecDepth 100000 in
set_option maxHeartbeats 1000000 in
theorem csum_any (vt : Value) (t : List Nat) (s : ByteArray) (w : World) (hr : RdN .u32 w w.heap.size vt t) (ht : ∀ x ∈ t, x < 4294967296) (zs : s.size ≤ 140737488351232) :
    Calls Tryd.prog 32 #[vt, .string s] w (Ret (.int .u32 (sumL t s.data.toList : Nat)) w) := by
  have hr2 := hr
  obtain ⟨A, c, rfl, hc1, hc2, _⟩ := hr2
  unfold maxLen at hc2
  have HR := Lib.hid hr; clear hr
  by_cases hl : t.length = 256
  · have HL := Lib.hid hl
    have hd : ((t.length : Int) != 256) = false := by rw [hl]; rfl
    have HS := Lib.hid (sumL_in hl s.data.toList)
    clear hl
    have hb := get_bN s
    go_enter Tryd.func32, Tryd.ntmps32
    go_wp2
    go_loop [5, 12] (fun x i => ∃ j : Nat, x = .int .u32 (feed t 4294967295 (s.data.toList.take j) : Nat) ∧ i = .int .i64 j ∧ j ≤ s.size) (fun _ i => s.size - (intOf i).toNat)
    case atStart => exact ⟨0, rfl, rfl, Nat.zero_le _⟩
    case round =>
      obtain ⟨j, rfl, rfl, hj⟩ := hrel
      have hv := feed_lt ht (s.data.toList.take j) (v := 4294967295) (by decide)
      have hn := fun h => feed_bN t 4294967295 (s := s) (j := j) h
      generalize hx : feed t 4294967295 (s.data.toList.take j) = x at *
      have HE := Lib.hid hx; have HN := Lib.hid hn; clear hx hn
      by_cases hlt : j < s.size
      · have hC := Lib.hid (shift_any _ t x (bN s j) w HR.out HL.out ht hv (bN_lt s j))
        go_wp2_with (go_at_call 46; refine hC.out.mono ?_; rintro e w' ⟨rfl, rfl⟩)
        go_round
        case rel => exact ⟨j + 1, by rw [HN.out hlt], by go_num, hlt⟩
        case measure => simp [intOf] <;> omega
      · have hj2 : j = s.size := by omega
        have hf : feed t 4294967295 s.data.toList = x := by rw [← HE.out, hj2, feed_all]
        have HF := Lib.hid hf; clear hj2 hf
        go_wp2
        go_ret
        exact Ret.mk (by rw [HS.out, HF.out]; exact vint (not32 hv))
  · have hd : ((t.length : Int) != 256) = true := by simp; omega
    rw [sumL_out hl]
    go_enter Tryd.func32, Tryd.ntmps32
    go_wp2
    go_ret
    exact Ret.mk rfl
set_option maxRecDepth 100000 in
set_option maxHeartbeats 1000000 in
theorem rsum_any (vt : Value) (t : List Nat) (s : ByteArray) (w : World) (hr : RdN .u32 w w.heap.size vt t) (ht : ∀ x ∈ t, x < 4294967296) (zs : s.size ≤ 140737488351232) :
    Calls Tryd.prog 34 #[vt, .string s] w (Ret (.int .u32 (sumL t s.data.toList : Nat)) w) := by
  obtain ⟨A, c, rfl, hc1, hc2, hcell⟩ := hr
  unfold maxLen at hc2
  by_cases hl : t.length = 256
  · have HL := Lib.hid hl
    have HC := Lib.hid hcell
    have hd : ((t.length : Int) != 256) = false := by rw [hl]; rfl
    have HS := Lib.hid (sumL_in hl s.data.toList)
    clear hl hcell
    have hb := get_bN s
    go_enter Tryd.func34, Tryd.ntmps34
    go_wp2
    go_loop [5, 6] (fun x i => ∃ j : Nat, x = .int .u32 (feed t 4294967295 (s.data.toList.take j) : Nat) ∧ i = .int .i64 j ∧ j ≤ s.size) (fun _ i => s.size - (intOf i).toNat)
    case atStart => exact ⟨0, rfl, rfl, Nat.zero_le _⟩
    case round =>
      obtain ⟨j, rfl, rfl, hj⟩ := hrel
      have hv := feed_lt ht (s.data.toList.take j) (v := 4294967295) (by decide)
      have hn := fun h => feed_bN t 4294967295 (s := s) (j := j) h
      generalize hx : feed t 4294967295 (s.data.toList.take j) = x at *
      have HE := Lib.hid hx; have HN := Lib.hid hn; clear hx hn
      by_cases hlt : j < s.size
      · have hm : x % 256 < 256 := Nat.mod_lt _ (by decide)
        have hb8 := bN_lt s j
        have hi : x % 256 ^^^ bN s j < 256 := xor_lt8 hm hb8
        obtain ⟨ad, rfl, _, hc⟩ := HC.out (x % 256 ^^^ bN s j) (by rw [HL.out]; exact hi)
        have hy := get_lt (i := x % 256 ^^^ bN s j) ht
        have e2 := xor_ix8 hm hb8
        rw [show ((x % 256 : Nat) : Int) = (x : Int) % 256 from by push_cast; rfl] at e2
        have e3 := xor_out hv hy
        have hs : shb t x (bN s j) = x / 256 ^^^ t.getD (x % 256 ^^^ bN s j) 0 := rfl
        have HSH := Lib.hid hs; clear hs
        generalize x % 256 ^^^ bN s j = i at *
        generalize t.getD i 0 = y at *
        have hil : i < t.length := by rw [HL.out]; exact hi
        go_wp2
        clear e2
        go_round
        case rel => exact ⟨j + 1, by rw [HN.out hlt, HSH.out], by go_num, hlt⟩
        case measure => simp [intOf] <;> omega
      · have hj2 : j = s.size := by omega
        have hf : feed t 4294967295 s.data.toList = x := by rw [← HE.out, hj2, feed_all]
        have HF := Lib.hid hf; clear hj2 hf
        go_wp2
        go_ret
        exact Ret.mk (by rw [HS.out, HF.out]; exact vint (not32 hv))
  · have hd : ((t.length : Int) != 256) = true := by simp; omega
    rw [sumL_out hl]
    go_enter Tryd.func34, Tryd.ntmps34
    go_wp2
    go_ret
    exact Ret.mk rfl
end Go.Proofs.YtfkdenlpailmeaaDoor
