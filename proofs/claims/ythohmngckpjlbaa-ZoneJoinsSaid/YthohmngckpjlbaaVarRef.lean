/- The walks over the reference of package varint, and over Zig and Zag. -/
import Derived.Test.YthohmngckpjlbaaVarGet
namespace Go.VarM
open Go.RowKit Go.VB
theorem or_shift (v b k : Nat) (hv : v < 128 ^ k) (hk : k ≤ 9) (hb : k ≤ 8 ∨ b ≤ 1) (hb' : b < 256) :
    bits .or .u64 (v : Int) (IntKind.u64.wrap ((b : Int) % 128 * 2 ^ (7 * k))) = ((v + b % 128 * 128 ^ k : Nat) : Int) ∧ b % 128 * 128 ^ k + v < 18446744073709551616 := by
  have hp : 128 ^ k = 2 ^ (7 * k) := pow_128 k
  have hlt : b % 128 * 128 ^ k + v < 18446744073709551616 := by
    rcases hb with h | h
    · have h1 : (128 : Nat) ^ k ≤ 128 ^ 8 := Nat.pow_le_pow_right (by decide) h
      have h2 : b % 128 * 128 ^ k ≤ 127 * 128 ^ 8 := Nat.mul_le_mul (by omega) h1
      rw [show (128 : Nat) ^ 8 = 72057594037927936 from by decide] at *
      omega
    · have h1 : (128 : Nat) ^ k ≤ 128 ^ 9 := Nat.pow_le_pow_right (by decide) hk
      have h2 : b % 128 * 128 ^ k ≤ 1 * 128 ^ 9 := Nat.mul_le_mul (by omega) h1
      rw [show (128 : Nat) ^ 9 = 9223372036854775808 from by decide] at *
      omega
  refine ⟨?_, hlt⟩
  have h := u64_or_nat v (b % 128 * 128 ^ k) (by omega) (by omega)
  rw [Nat.or_comm, nat_join (7 * k) (b % 128 * 128 ^ k) v (by rw [hp]; exact Nat.mul_mod_left _ _) (by rw [← hp]; exact hv), Nat.add_comm] at h
  rw [← h, hp]
  have e : ((b % 128 * 2 ^ (7 * k) : Nat) : Int) = (b : Int) % 128 * 2 ^ (7 * k) := by push_cast; rfl
  rw [← e, IntWalk.u64_in _ ⟨by omega, by rw [← hp]; omega⟩]
theorem or_shift9 (v b : Nat) (h : bits .or .u64 (v : Int) (IntKind.u64.wrap ((b : Int) % 128 * 2 ^ (7 * 9))) = ((v + b % 128 * 128 ^ 9 : Nat) : Int)) :
    b ≤ 1 → bits .or .u64 (v : Int) ((b : Int) % 128 * 9223372036854775808) = ((v + b % 128 * 128 ^ 9 : Nat) : Int) := fun hb => by
  rw [show ((b : Int) % 128 * 2 ^ (7 * 9)) = (b : Int) % 128 * 9223372036854775808 from rfl, IntWalk.u64_in _ ⟨by omega, by omega⟩] at h
  exact h
/-- The reading after k bytes, all with the highest bit. -/
theorem getL_short {l : List UInt8} {k : Nat} (hk : k < 10) (hl : l.length ≤ k) (hall : ∀ j, j < k → 128 ≤ (l.getD j 0).toNat) : getL l = (0, 0, 10) := by
  unfold getL
  rw [sizeL_none 10 l (fun j _ h2 => hall j (by omega))]
  simp [show l.length < 10 from by omega]
theorem getL_over {l : List UInt8} (hl : 10 ≤ l.length) (hall : ∀ j, j < 10 → 128 ≤ (l.getD j 0).toNat) : getL l = (0, 0, 8) := by
  unfold getL
  rw [sizeL_none 10 l (fun j h _ => hall j h)]
  simp [show ¬ l.length < 10 from by omega]
theorem getL_over1 {l : List UInt8} (hl : 9 < l.length) (hall : ∀ j, j < 9 → 128 ≤ (l.getD j 0).toNat) (hb : 1 < (l.getD 9 0).toNat) : getL l = (0, 0, 8) := by
  by_cases h : (l.getD 9 0).toNat < 128
  · unfold getL
    rw [sizeL_hit 10 l 9 (by omega) hl hall h]
    simp only [Nat.reduceAdd, Nat.reduceSub, true_and]
    rw [if_pos hb]
  · exact getL_over (by omega) (fun j hj => by
      by_cases hj9 : j = 9
      · subst hj9; omega
      · exact hall j (by omega))
theorem getL_hit {l : List UInt8} {k : Nat} (hk : k ≤ 9) (hl : k < l.length) (hall : ∀ j, j < k → 128 ≤ (l.getD j 0).toNat) (hb : (l.getD k 0).toNat < 128) (h9 : k ≤ 8 ∨ (l.getD k 0).toNat ≤ 1) :
    getL l = if 0 < k ∧ (l.getD k 0).toNat = 0 then (0, 0, 2) else (joinL (l.take k) + (l.getD k 0).toNat % 128 * 128 ^ k, k + 1, 0) := by
  unfold getL
  rw [sizeL_hit 10 l k (by omega) hl hall hb]
  simp only [Nat.add_sub_cancel]
  rw [if_neg (by omega)]
  have e : joinL (l.take (k + 1)) = joinL (l.take k) + (l.getD k 0).toNat % 128 * 128 ^ k := by
    rw [List.take_succ_eq_append_getElem hl, joinL_append, List.length_take, Nat.min_eq_left (by omega)]
    simp only [joinL]
    rw [List.getD_eq_getElem?_getD, List.getElem?_eq_getElem hl, Option.getD_some, Nat.mul_zero, Nat.add_zero, Nat.mul_comm]
  rw [e]
  by_cases h : 0 < k ∧ (l.getD k 0).toNat = 0
  · rw [if_pos h, if_pos ⟨by omega, h.2⟩]
  · rw [if_neg h, if_neg (by omega)]
theorem joinL_take_succ {l : List UInt8} {k : Nat} (hl : k < l.length) : joinL (l.take (k + 1)) = joinL (l.take k) + (l.getD k 0).toNat % 128 * 128 ^ k := by
  rw [List.take_succ_eq_append_getElem hl, joinL_append, List.length_take, Nat.min_eq_left (by omega)]
  simp only [joinL]
  rw [List.getD_eq_getElem?_getD, List.getElem?_eq_getElem hl, Option.getD_some, Nat.mul_zero, Nat.add_zero, Nat.mul_comm]
theorem joinL_take_lt {l : List UInt8} {k : Nat} (hl : k ≤ l.length) : joinL (l.take k) < 128 ^ k := by
  have := joinL_lt (l.take k)
  rwa [List.length_take, Nat.min_eq_left hl] at this
end Go.VarM
namespace Go.Proofs.Ythohmngckpjlbaa
open Go.RowKit Go.VB Go.VarM
theorem vres_ok {a b : Int} {A : Nat} {c : Int} {x : Nat × Int × Nat} (h1 : a = (A : Int)) (h2 : b = c) : Value.tuple #[.int .u64 a, .int .i64 b, .int .i64 0] = vres (if (0 : Nat) = 0 then (A, c, 0) else x) := by
  rw [h1, h2]; rfl
set_option maxRecDepth 100000 in
set_option maxHeartbeats 1000000 in
theorem rget_any (s : ByteArray) (i : Int) (w : World) (hs : s.size ≤ maxLen) :
    Calls Try.prog 42 #[.string s, .int .i64 i] w (Ret (vres (getR s i)) w) := by
  unfold maxLen at hs
  by_cases hr : i < 0 ∨ (s.size : Int) < i
  · rw [getR_out hr]
    rcases hr with hr | hr
    · go_enter Try.func42, Try.ntmps42
      go_wp2
      go_ret3
      exact Ret.mk rfl
    · by_cases h0 : i < 0
      · omega
      · go_enter Try.func42, Try.ntmps42
        go_wp2
        go_ret3
        exact Ret.mk rfl
  · obtain ⟨p, rfl⟩ : ∃ k : Nat, i = k := ⟨i.toNat, by omega⟩
    have hp : p ≤ s.size := by omega
    clear hr
    obtain ⟨l, hl⟩ : ∃ l, l = s.data.toList.drop p := ⟨_, rfl⟩
    have hlen : l.length = s.size - p := by rw [hl, List.length_drop, size_list]
    have hR := fun r (h : getL l = r) => getR_in hp (hl ▸ h)
    have hbN : ∀ j, (l.getD j 0).toNat = bN s (p + j) := fun j => by
      rw [hl]; unfold bN
      rw [List.getD_eq_getElem?_getD, List.getElem?_drop, ← List.getD_eq_getElem?_getD]
    have hb := get_bN s
    have HR := Lib.hid hR
    have HB := Lib.hid hbN
    have HL := Lib.hid hlen
    clear hR hbN hl hlen
    have hd : decide (s.size < p) = false := by simp; omega
    go_enter Try.func42, Try.ntmps42
    go_wp2
    go_loop [7, 8] (fun v c => ∃ (k V : Nat), v = .int .u64 V ∧ c = .int .i64 k ∧ k ≤ 10 ∧ p + k ≤ s.size ∧ V = joinL (l.take k) ∧ ∀ j, j < k → 128 ≤ (l.getD j 0).toNat) (fun _ c => 10 - (intOf c).toNat)
    case atStart => exact ⟨0, 0, rfl, rfl, by omega, by omega, rfl, fun j hj => by omega⟩
    case round =>
      obtain ⟨k, V, rfl, rfl, hk, hks, hV, hall⟩ := hrel
      have HV := Lib.hid hV
      have HA := Lib.hid hall
      clear hV hall
      by_cases hk10 : k < 10
      · by_cases hend : p + k < s.size
        · have hbl := bN_lt s (p + k)
          have hkl : k < l.length := by rw [HL.out]; omega
          have HK := Lib.hid hkl
          clear hkl
          generalize hB : bN s (p + k) = B at hbl
          have hb1 : ∀ h : p + k < s.size, (s[p + k]'h).toNat = B := fun h => by rw [hb, hB]
          have hlB : (l.getD k 0).toNat = B := by rw [HB.out, hB]
          have HLB := Lib.hid hlB
          clear hB hlB hb
          have e1 := and127b hbl
          by_cases h9 : 9 ≤ k ∧ 1 < B
          · obtain ⟨h9, hB1⟩ := h9
            have h99 : k = 9 := by omega
            have hg : getL l = (0, 0, 8) := getL_over1 (by have := HK.out; omega) (fun j hj => HA.out j (by omega)) (by rw [← h99, HLB.out]; exact hB1)
            have HG := Lib.hid (HR.out _ hg)
            clear hg h99
            go_wp2
            go_ret3
            refine Ret.mk ?_
            rw [HG.out]; rfl
          · have h98 : k ≤ 8 ∨ B ≤ 1 := by omega
            obtain ⟨e2, hfit⟩ := or_shift V B k (by have := joinL_take_lt (l := l) (k := k) (by have := HK.out; omega); rw [← HV.out] at this; exact this) (by omega) h98 hbl
            clear h9
            have h98' : k ≤ 8 ∨ (9 ≤ k ∧ B ≤ 1) := by omega
            clear h98
            have H98 : k ≤ 8 ∨ (l.getD k 0).toNat ≤ 1 := by rw [HLB.out]; omega
            by_cases hlo : B < 128
            · have hg := getL_hit (l := l) (k := k) (by omega) HK.out HA.out (by rw [HLB.out]; exact hlo) H98
              clear H98
              have hz : (1 ≤ k ∧ B ≤ 0) ∨ (k ≤ 0 ∧ B ≤ 0) ∨ 1 ≤ B := by omega
              rcases hz with ⟨hz1, hz⟩ | hz
              · rw [HLB.out, if_pos (by omega)] at hg
                have HG := Lib.hid (HR.out _ hg)
                clear hg
                rcases h98' with h98 | ⟨h98, h98b⟩
                · go_wp2
                  go_ret3
                  refine Ret.mk ?_
                  rw [HG.out]; rfl
                · go_wp2
                  go_ret3
                  refine Ret.mk ?_
                  rw [HG.out]; rfl
              · rw [HLB.out, if_neg (by omega), ← HV.out] at hg
                have HG := Lib.hid (HR.out _ hg)
                clear hg
                rcases hz with ⟨hz1, hz⟩ | hz
                · go_wp2
                  go_ret3
                  refine Ret.mk ?_
                  have hB0 : B = 0 := by omega
                  rw [HG.out]
                  exact vres_ok (x := (0, 0, 0)) (by rw [hB0]; simp) (by omega)
                · rcases h98' with h98 | ⟨h98, h98b⟩
                  · go_wp2
                    go_ret3
                    refine Ret.mk ?_
                    rw [HG.out]
                    exact vres_ok (x := (0, 0, 0)) rfl (by omega)
                  · have hk9 : k = 9 := by omega
                    subst hk9
                    have hb2 : ∀ h : p + 9 < s.size, (s[p + 9]'h).toNat = B := hb1
                    have e3 := or_shift9 V B e2 h98b
                    clear e2
                    go_wp2
                    go_ret3
                    refine Ret.mk ?_
                    rw [HG.out]
                    exact vres_ok (x := (0, 0, 0)) rfl (by omega)
            · have h8 : k ≤ 8 := by omega
              clear h98' H98
              go_wp2
              clear e1 e2 hb1
              go_round
              case rel =>
                refine ⟨k + 1, V + B % 128 * 128 ^ k, by go_num, by go_num, by omega, by omega, ?_, ?_⟩
                · rw [joinL_take_succ HK.out, HLB.out, HV.out]
                · intro j hj
                  by_cases hjk : j = k
                  · subst hjk; rw [HLB.out]; omega
                  · exact HA.out j (by omega)
              case measure => simp [intOf] <;> omega
        · have hg := getL_short (l := l) (k := k) hk10 (by rw [HL.out]; omega) HA.out
          have HG := Lib.hid (HR.out _ hg)
          clear hg
          go_wp2
          go_ret3
          refine Ret.mk ?_
          rw [HG.out]; rfl
      · have hg := getL_over (l := l) (by rw [HL.out]; omega) (fun j hj => HA.out j (by omega))
        have HG := Lib.hid (HR.out _ hg)
        clear hg
        go_wp2
        go_ret3
        refine Ret.mk ?_
        rw [HG.out]; rfl

set_option maxHeartbeats 400000 in
theorem vzig_any (a : Int) (w : World) (h1 : -9223372036854775808 ≤ a) (h2 : a ≤ 9223372036854775807) :
    Calls Try.prog 59 #[.int .i64 a] w (Ret (.int .u64 (zigN a)) w) := by
  have h := Lib.hid (zig_eq h1 h2)
  go_enter Try.func59, Try.ntmps59
  go_wp2
  go_ret
  refine Ret.mk ?_
  rw [← h.out]; rfl
set_option maxHeartbeats 400000 in
theorem vzag_any (v : Int) (w : World) (h1 : 0 ≤ v) (h2 : v ≤ 18446744073709551615) :
    Calls Try.prog 66 #[.int .u64 v] w (Ret (.int .i64 (zagN v)) w) := by
  have h := Lib.hid (zag_eq h1 h2)
  go_enter Try.func66, Try.ntmps66
  go_wp2
  go_ret
  refine Ret.mk ?_
  rw [← h.out]; rfl
set_option maxHeartbeats 400000 in
theorem rzig_any (a : Int) (w : World) (h1 : -9223372036854775808 ≤ a) (h2 : a ≤ 9223372036854775807) :
    Calls Try.prog 57 #[.int .i64 a] w (Ret (.int .u64 (zigN a)) w) := by
  by_cases h : a < 0
  · have e : zigN a = -2 * a - 1 := by unfold zigN; rw [if_pos h]
    rw [e]
    go_enter Try.func57, Try.ntmps57
    go_wp2
    go_ret
    exact Ret.mk (vint (by first | rfl | omega | (simp only [IntKind.wrap_u64, wrap64]; omega)))
  · have e : zigN a = 2 * a := by unfold zigN; rw [if_neg h]
    rw [e]
    go_enter Try.func57, Try.ntmps57
    go_wp2
    go_ret
    exact Ret.mk (vint (by first | rfl | omega | (simp only [IntKind.wrap_u64, wrap64]; omega)))
set_option maxHeartbeats 400000 in
theorem rzag_any (v : Int) (w : World) (h1 : 0 ≤ v) (h2 : v ≤ 18446744073709551615) :
    Calls Try.prog 56 #[.int .u64 v] w (Ret (.int .i64 (zagN v)) w) := by
  by_cases h : v % 2 = 1
  · have e : zagN v = -(v / 2) - 1 := by unfold zagN; rw [if_pos h]
    rw [e]
    have ht : (v % 2 == 1) = true := by simp [h]
    clear h
    go_enter Try.func56, Try.ntmps56
    go_wp2
    go_ret
    exact Ret.mk (vint (by first | rfl | omega | (simp only [wrap64]; omega)))
  · have e : zagN v = v / 2 := by unfold zagN; rw [if_neg h]
    rw [e]
    have ht : (v % 2 == 1) = false := by simp [h]
    clear h
    go_enter Try.func56, Try.ntmps56
    go_wp2
    go_ret
    exact Ret.mk (vint (by first | rfl | omega | (simp only [wrap64]; omega)))
theorem vget_is (s : ByteArray) (i : Int) (w : World) (hs : s.size ≤ maxLen) {a : Nat} {b : Int} {c : Nat} (h : getR s i = (a, b, c)) :
    Calls Try.prog 54 #[.string s, .int .i64 i] w (Ret (.tuple #[.int .u64 (a : Int), .int .i64 b, .int .i64 (c : Int)]) w) := by
  have := vget_any s i w hs
  rw [h] at this
  exact this
theorem vget_ok (s : ByteArray) (i : Int) (w : World) (hs : s.size ≤ maxLen) {a : Nat} {b : Int} (h : getR s i = (a, b, 0)) :
    Calls Try.prog 54 #[.string s, .int .i64 i] w (Ret (.tuple #[.int .u64 (a : Int), .int .i64 b, .int .i64 0]) w) := vget_is s i w hs h
theorem rget_is (s : ByteArray) (i : Int) (w : World) (hs : s.size ≤ maxLen) {a : Nat} {b : Int} {c : Nat} (h : getR s i = (a, b, c)) :
    Calls Try.prog 42 #[.string s, .int .i64 i] w (Ret (.tuple #[.int .u64 (a : Int), .int .i64 b, .int .i64 (c : Int)]) w) := by
  have := rget_any s i w hs
  rw [h] at this
  exact this
theorem rget_ok (s : ByteArray) (i : Int) (w : World) (hs : s.size ≤ maxLen) {a : Nat} {b : Int} (h : getR s i = (a, b, 0)) :
    Calls Try.prog 42 #[.string s, .int .i64 i] w (Ret (.tuple #[.int .u64 (a : Int), .int .i64 b, .int .i64 0]) w) := rget_is s i w hs h
end Go.Proofs.Ythohmngckpjlbaa
