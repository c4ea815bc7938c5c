/- The walks over package nulls and its reference: Unpack; two lists of truth values that are the same; what the statements ask first. -/
import Derived.Test.YteodifbbgohkpaaNulW2
namespace Go.Proofs.Yteodifbbgohkpaa
open Go.RowKit Go.VB Go.BP Go.NU
theorem Try.infB : (Try.prog.info? 4).map (fun i => (i.zero, i.size, i.bytes)) = some (some (.bool false), 1, 1) := by kernel_rfl
set_option maxRecDepth 100000 in
set_option maxHeartbeats 1000000 in
theorem same_b_eq (x y : Value) (l : List Bool) (B : Nat) (w : World) (hx : RdV Value.bool w B x l) (hy : RdV Value.bool w B y l) (hB : B ≤ w.heap.size) :
    Calls Try.prog 18 #[x, y] w (RetB (.bool true) w) := by
  obtain ⟨A, c, rfl, hc1, hc2, hx'⟩ := hx
  obtain ⟨A', c', rfl, hd1, hd2, hy'⟩ := hy
  have hx : RdV Value.bool w B (.slice A l.length c) l := ⟨A, c, rfl, hc1, hc2, hx'⟩
  have hy : RdV Value.bool w B (.slice A' l.length c') l := ⟨A', c', rfl, hd1, hd2, hy'⟩
  clear hx' hy'
  unfold maxLen at hc2 hd2
  have HX := Lib.hid hx; have HY := Lib.hid hy; clear hx hy
  go_enter Try.func18, Try.ntmps18
  go_wp2
  go_loopw [13] (fun i wr => ∃ j : Nat, i = .int .i64 j ∧ j ≤ l.length ∧ Below w.heap.size w wr) (fun i _ => l.length - (intOf i).toNat)
  case atStart => exact ⟨0, rfl, Nat.zero_le _, Below.refl _ _⟩
  case round =>
    obtain ⟨j, rfl, hj, hbel⟩ := hrel
    by_cases hlt : j < l.length
    · have hlj : l[j]? = some l[j] := List.getElem?_eq_getElem hlt
      obtain ⟨_, _, hv1, _, _, hcx⟩ := HX.out.below (hbel.mono hB)
      cases hv1
      obtain ⟨ad, rfl, _, hgx⟩ := hcx j _ hlj
      obtain ⟨_, _, hv2, _, _, hcy⟩ := HY.out.below (hbel.mono hB)
      cases hv2
      obtain ⟨ad', rfl, _, hgy⟩ := hcy j _ hlj
      clear hcx hcy hlj
      generalize l[j] = V at hgx hgy
      go_wp2_with fail
      go_region
      go_wp2_with fail
      go_roundw
      case rel => exact ⟨j + 1, by go_num, hlt, hbel.drew⟩
      case measure => simp [intOf] <;> omega
    · go_wp2
      go_ret
      exact RetB.mk rfl hbel
theorem nrest_at (s : ByteArray) (used : Nat) (b : Bool) (w : World) (hu : used ≤ 1000000) (hs : s.size = (used + 7) / 8) (hb : decide (num s < 2 ^ used) = b) :
    Calls Try.prog 23 #[.string s, .int .i64 used] w (Ret (.bool b) w) := by
  subst hb; exact nrest_any s used w hu hs
set_option maxRecDepth 100000 in
set_option maxHeartbeats 2000000 in
theorem nunpack_any (s : ByteArray) (n : Int) (w : World) (zs : s.size ≤ 140737488351232) :
    Calls Try.prog 16 #[.string s, .int .i64 n] w (RetVE Value.bool 4 (upk s n).1 (upk s n).2 w) := by
  by_cases h0 : n < 0
  · rw [upk_range (by omega)]
    go_enter Try.func16, Try.ntmps16
    go_wp2
    go_ret2
    exact RetVE.mk rfl (OwnV.nil _ _ _ _) (Below.refl _ _)
  by_cases h1 : 4096 < n
  · rw [upk_range (by omega)]
    have hd0 : decide (n < 0) = false := decide_eq_false h0
    have hd1 : decide (4096 < n) = true := decide_eq_true h1
    go_enter Try.func16, Try.ntmps16
    go_wp2
    go_ret2
    exact RetVE.mk rfl (OwnV.nil _ _ _ _) (Below.refl _ _)
  obtain ⟨n, rfl⟩ := Int.eq_ofNat_of_zero_le (show 0 ≤ n by omega)
  have hn : n ≤ 4096 := by omega
  clear h0 h1
  have HNB := fun w => Lib.hid (nbytes_any n w (by omega))
  by_cases hlo : s.size < (n + 7) / 8
  · rw [upk_short hn hlo]
    generalize (n + 7) / 8 = m at *
    go_enter Try.func16, Try.ntmps16
    go_wp2_with (go_at_call 21; refine (HNB _).out.mono ?_; rintro e w' ⟨rfl, rfl⟩)
    go_ret2
    exact RetVE.mk rfl (OwnV.nil _ _ _ _) (Below.refl _ _)
  by_cases hhi : (n + 7) / 8 < s.size
  · rw [upk_long hn hhi]
    generalize (n + 7) / 8 = m at *
    go_enter Try.func16, Try.ntmps16
    go_wp2_with (go_at_call 21; refine (HNB _).out.mono ?_; rintro e w' ⟨rfl, rfl⟩)
    go_ret2
    exact RetVE.mk rfl (OwnV.nil _ _ _ _) (Below.refl _ _)
  have hsz : s.size = (n + 7) / 8 := by omega
  by_cases hr : num s < 2 ^ n
  · have HZ := fun w => Lib.hid (nrest_at s n true w (by omega) hsz (decide_eq_true hr))
    rw [upk_ok hn hsz hr]
    have hb := get_bN s
    have hm : (n + 7) / 8 ≤ 513 := by omega
    generalize hM : (n + 7) / 8 = m at *
    have HM := Lib.hid hM; have HSZ := Lib.hid hsz; clear hM hsz
    have hmk := run_makeV (P := Try.prog) (z := .bool false) rfl Try.underlying23 Try.infB n (by omega) (by unfold maxLen; omega)
    have hrow := RowV.made Value.bool false 4 w w.heap.size n (Nat.le_refl _) (by unfold maxLen; omega)
    have hb0 : Below w.heap.size w (w.alloc (.cells (madeCells #[.bool false] n) 4)) := (Below.refl _ _).alloc (Nat.le_refl _) _
    generalize hW : (w.alloc (.cells (madeCells #[.bool false] n) 4)) = W1 at hrow hb0
    have hmk1 := hmk w
    rw [hW] at hmk1
    clear hmk hW hr
    go_enter Try.func16, Try.ntmps16
    go_wp2_with (first
      | (go_at_call 21; refine (HNB _).out.mono ?_; rintro e w' ⟨rfl, rfl⟩)
      | (go_at_call 23; refine (HZ _).out.mono ?_; rintro e w' ⟨rfl, rfl⟩))
    clear hmk1
    go_loopw [35] (fun i wr => ∃ (j : Nat) (ls : List Bool), i = .int .i64 j ∧ j ≤ n ∧ RowV Value.bool 4 wr w.heap.size w.heap.size n ls ∧ ls.length = n ∧ ls = bools j (num s) ++ List.replicate (n - j) false ∧ Below w.heap.size w wr)
      (fun i _ => n - (intOf i).toNat)
    case atStart => exact ⟨0, _, rfl, Nat.zero_le _, hrow, by simp, by simp [bools], hb0⟩
    case round =>
      obtain ⟨j, ls, rfl, hj, hrw, hlen, hls, hbel⟩ := hrel
      have HL := Lib.hid hlen; have HLS := Lib.hid hls; clear hlen hls
      by_cases hlt : j < n
      · have hset := bools_set (N := num s) hlt
        have hsa := shr_and s j
        have hbi := bit_is (num s) j
        have hbl := bN_lt s (j / 8)
        have hin : j / 8 < s.size := by rw [HSZ.out, ← HM.out]; omega
        generalize num s / 2 ^ j % 2 = x at hsa hbi
        generalize bitN (num s) j = t at hset hbi
        have HSET := Lib.hid hset; clear hset
        have hlj : ls[j]? = some (ls[j]'(by rw [HL.out]; exact hlt)) := List.getElem?_eq_getElem _
        have hc := hrw.cell j _ hlj
        have hf := hrw.frozen j
        have hst := hrw.store j t
        clear hlj
        generalize ls[j]'_ = old at hc
        go_wp2_with fail
        go_roundw
        case rel => exact ⟨j + 1, _, by go_num, hlt, hst, by rw [List.length_set]; exact HL.out, by rw [HLS.out]; exact HSET.out, hbel.setCell (Nat.le_refl _) _⟩
        case measure => simp [intOf] <;> omega
      · have hjn : j = n := by omega
        have hfin : ls = bools n (num s) := by rw [HLS.out, hjn, Nat.sub_self, List.replicate_zero, List.append_nil]
        have HF := Lib.hid hfin; clear hjn hfin
        go_wp2
        go_ret2
        exact RetVE.mk rfl (hrw.own_at HL.out HF.out) hbel
  · have HZ := fun w => Lib.hid (nrest_at s n false w (by omega) hsz (decide_eq_false hr))
    rw [upk_rest hn hsz hr]
    generalize (n + 7) / 8 = m at *
    clear hsz
    go_enter Try.func16, Try.ntmps16
    go_wp2_with (first
      | (go_at_call 21; refine (HNB _).out.mono ?_; rintro e w' ⟨rfl, rfl⟩)
      | (go_at_call 23; refine (HZ _).out.mono ?_; rintro e w' ⟨rfl, rfl⟩))
    go_ret2
    exact RetVE.mk rfl (OwnV.nil _ _ _ _) (Below.refl _ _)
set_option maxRecDepth 100000 in
set_option maxHeartbeats 2000000 in
theorem runpackb_any (s : ByteArray) (n : Int) (w : World) (zs : s.size ≤ 140737488351232) :
    Calls Try.prog 17 #[.string s, .int .i64 n] w (RetVE Value.bool 4 (upk s n).1 (upk s n).2 w) := by
  have h1 := fun w => rsize_any n w
  by_cases hn : 0 ≤ n ∧ n ≤ 4096
  · rw [decide_eq_true hn] at h1
    have HSZ := fun w => Lib.hid (h1 w); clear h1
    obtain ⟨n, rfl⟩ := Int.eq_ofNat_of_zero_le hn.1
    have hn' : n ≤ 4096 := by omega
    clear hn
    by_cases hlo : s.size < (n + 7) / 8
    · rw [upk_short hn' hlo]
      have hd : decide ((s.size : Int) < ((n : Int) + 7) / 8) = true := decide_eq_true (by omega)
      go_enter Try.func17, Try.ntmps17
      go_wp2_with (go_at_call 24; refine (HSZ _).out.mono ?_; rintro e w' ⟨rfl, rfl⟩)
      go_ret2
      exact RetVE.mk rfl (OwnV.nil _ _ _ _) (Below.refl _ _)
    by_cases hhi : (n + 7) / 8 < s.size
    · rw [upk_long hn' hhi]
      have hd0 : decide ((s.size : Int) < ((n : Int) + 7) / 8) = false := decide_eq_false (by omega)
      have hd : decide (((n : Int) + 7) / 8 < (s.size : Int)) = true := decide_eq_true (by omega)
      go_enter Try.func17, Try.ntmps17
      go_wp2_with (go_at_call 24; refine (HSZ _).out.mono ?_; rintro e w' ⟨rfl, rfl⟩)
      go_ret2
      exact RetVE.mk rfl (OwnV.nil _ _ _ _) (Below.refl _ _)
    have hsz : s.size = (n + 7) / 8 := by omega
    have hR1 := fun h => upk_rest hn' hsz h
    have hR2 := fun h => upk_ok hn' hsz h
    have HR1 := Lib.hid hR1; have HR2 := Lib.hid hR2; clear hR1 hR2
    have hnlt := num_lt s
    generalize upk s n = R at *
    have hd0 : decide ((s.size : Int) < ((n : Int) + 7) / 8) = false := decide_eq_false (by omega)
    have hd1 : decide (((n : Int) + 7) / 8 < (s.size : Int)) = false := decide_eq_false (by omega)
    have hs5 : s.size ≤ 513 := by omega
    have hn8 : n ≤ 8 * s.size := by omega
    clear hsz hlo hhi
    go_enter Try.func17, Try.ntmps17
    go_wp2_with (go_at_call 24; refine (HSZ _).out.mono ?_; rintro e w' ⟨rfl, rfl⟩)
    clear hd0 hd1
    go_loopw [6, 7] (fun o i wr => ∃ (j : Nat) (ls : List Bool), i = .int .i64 j ∧ j ≤ 8 * s.size ∧ OwnV Value.bool 4 wr w.heap.size o ls ∧ ls.length = min j n ∧ ls = bools (min j n) (num s) ∧ num s % 2 ^ j < 2 ^ n ∧ Below w.heap.size w wr)
      (fun _ i _ => 8 * s.size - (intOf i).toNat)
    case atStart => exact ⟨0, [], rfl, Nat.zero_le _, OwnV.nil _ _ _ _, by simp, by simp [bools], by simp [Nat.mod_one, Nat.two_pow_pos], Below.refl _ _⟩
    case round =>
      obtain ⟨j, ls, rfl, hj, hown, hlen, hls, hlow, hbel⟩ := hrel
      have HL := Lib.hid hlen; have HLS := Lib.hid hls; have HLO := Lib.hid hlow; clear hlen hls hlow
      by_cases hlt : j < 8 * s.size
      · have HBI := fun w => Lib.hid (rbit_any s j w zs hlt)
        have HMS := Lib.hid (mod_succ (num s) j)
        have HB : Hid (bitN (num s) j = decide (num s / 2 ^ j % 2 = 1)) := Lib.hid rfl
        have HM := Lib.hid (Nat.mod_lt (num s / 2 ^ j) (show 0 < 2 by decide))
        have HSU := Lib.hid (bools_succ j (num s))
        have hsize := hbel.size
        by_cases hjn : j < n
        · have hmin : min j n = j := by omega
          have hmin1 : min (j + 1) n = j + 1 := by omega
          have HMI := Lib.hid hmin; have HMI1 := Lib.hid hmin1; clear hmin hmin1
          have hl5 : ls.length ≤ 4096 := by rw [HL.out]; omega
          generalize bitN (num s) j = t at HB HBI HSU
          go_wp2_with (first
            | (go_at_call 25; refine (HBI _).out.mono ?_; rintro e w' ⟨rfl, rfl⟩)
            | (at_builtin; refine wpl_appV (f := Value.bool) (fun _ => rfl) (.bool false) rfl rfl _ _ 23 rfl w.heap.size 4 1 Try.underlying23 Try.infB _ ls rfl (hown.alloc _) (wr.heap.size + 1) _ [t] rfl (RdV.one _ _ _ _ _ (by decide) (by decide)) (by unfold maxLen; simp; omega) (by simp; omega) (by simp; omega) ?_))
          intro v' w' hown' hb' _
          go_wp2
          go_roundw
          case rel => exact ⟨j + 1, _, by go_num, hlt, hown', by rw [List.length_append, HL.out, HMI.out, HMI1.out]; rfl, by rw [HLS.out, HMI.out, HMI1.out, HSU.out], Nat.lt_of_lt_of_le (Nat.mod_lt _ (Nat.two_pow_pos _)) (Nat.pow_le_pow_right (by decide) hjn), (hbel.alloc hsize _).trans hb'⟩
          case measure => simp [intOf] <;> omega
        · have hmin : min j n = min (j + 1) n := by omega
          have HMI := Lib.hid hmin; clear hmin HSU
          generalize bitN (num s) j = t at HB HBI
          cases t with
          | true =>
            have hno := bit_big (of_decide_eq_true HB.out.symm) (Nat.le_of_not_lt hjn)
            have hR := HR1.out hno
            have HRR := Lib.hid hR; clear hR hno
            go_wp2_with (go_at_call 25; refine (HBI _).out.mono ?_; rintro e w' ⟨rfl, rfl⟩)
            go_ret2
            rw [HRR.out]
            exact RetVE.mk rfl (OwnV.nil _ _ _ _) hbel
          | false =>
            have hz : num s / 2 ^ j % 2 = 0 := by have := of_decide_eq_false HB.out.symm; have := HM.out; omega
            have hlow' : num s % 2 ^ (j + 1) < 2 ^ n := by rw [HMS.out, hz]; simpa using HLO.out
            have HLW := Lib.hid hlow'; clear hz hlow'
            go_wp2_with (go_at_call 25; refine (HBI _).out.mono ?_; rintro e w' ⟨rfl, rfl⟩)
            go_roundw
            case rel => exact ⟨j + 1, ls, by go_num, hlt, hown, by rw [HL.out, HMI.out], by rw [HLS.out, HMI.out], HLW.out, hbel⟩
            case measure => simp [intOf] <;> omega
      · have hj8 : j = 8 * s.size := by omega
        have hN : num s % 2 ^ j = num s := by rw [hj8]; exact Nat.mod_eq_of_lt hnlt
        have hlow := HLO.out
        rw [hN] at hlow
        have hR := HR2.out hlow
        have hfin : ls = bools n (num s) := by rw [HLS.out, show min j n = n by omega]
        have HF := Lib.hid hfin; have HRR := Lib.hid hR
        clear hj8 hN hlow hR hfin
        go_wp2
        go_ret2
        rw [HRR.out]
        exact RetVE.mk rfl (by rw [← HF.out]; exact hown) hbel
  · rw [decide_eq_false hn] at h1
    have HSZ := fun w => Lib.hid (h1 w); clear h1
    rw [upk_range (by omega)]
    go_enter Try.func17, Try.ntmps17
    go_wp2_with (go_at_call 24; refine (HSZ _).out.mono ?_; rintro e w' ⟨rfl, rfl⟩)
    go_ret2
    exact RetVE.mk rfl (OwnV.nil _ _ _ _) (Below.refl _ _)
theorem bmp_tft : bmp [true, false, true] = ⟨#[5]⟩ := by decide +kernel
theorem npack_eq (vl : Value) (l : List Bool) (B : Nat) (w : World) (hr : RdV Value.bool w B vl l) (hB : B ≤ w.heap.size) (hl : l.length ≤ 140737488351232) {s : ByteArray} (h : bmp l = s) :
    Calls Try.prog 10 #[vl] w (RetB (.string s) w) := by
  subst h; exact npack_any vl l B w hr hB hl
theorem rdv_tft (w : World) (e : TypeId) (m : Nat) (hm : 3 ≤ m) (hm2 : m ≤ maxLen) : RdV Value.bool (w.alloc (.cells #[.bool true, .bool false, .bool true] e)) (w.heap.size + 1) (.slice (some ⟨w.heap.size, 0, none⟩) 3 m) [true, false, true] :=
  RdV.lit Value.bool w [true, false, true] m e hm hm2
set_option maxRecDepth 100000 in
set_option maxHeartbeats 400000 in
theorem awake8_any (w : World) : Calls Try.prog 13 #[] w (RetB (.bool true) w) := by
  go_enter Try.func13, Try.ntmps13
  go_wp2_with fail
  refine (npack_eq _ _ _ _ (rdv_tft _ _ _ (by decide) (by decide)) (by simp) (by decide) bmp_tft).mono ?_
  rintro e w' ⟨rfl, hb⟩
  have hb' := ((Below.refl w.heap.size w).alloc (Nat.le_refl _) (.cells #[.bool true, .bool false, .bool true] 4)).trans (hb.mono (by simp))
  clear hb
  go_wp2
  go_ret
  exact RetB.mk rfl hb'
end Go.Proofs.Yteodifbbgohkpaa
