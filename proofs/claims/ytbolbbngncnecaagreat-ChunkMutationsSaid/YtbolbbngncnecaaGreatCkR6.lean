/- The walks over the reference's chunks, read: unpayload. -/
import Derived.Test.YtbolbbngncnecaaGreatCkR5
import Derived.Test.YtbolbbngncnecaaGreatDctK
import Derived.Test.YtbolbbngncnecaaGreatDltW7
namespace Go.Proofs.YtbolbbngncnecaaGreat
open Go.RowKit Go.VB Go.VarM Go.BP Go.RL Go.VS Go.VL Go.DI Go.CK Go.NU
section
variable (typ : Int) (s : ByteArray) (n : Nat) (W : World) (zs : s.size ≤ 140737488351232) (hn : n ≤ 4096)
include zs hn
set_option maxRecDepth 100000 in
set_option maxHeartbeats 400000 in
theorem unpay_1 : Calls Tryz.prog 67 #[.int .i64 typ, .int .i64 1, .string s, .int .i64 (n : Int)] W (PlP (payD typ 1 s n) W) := by
  rw [payD_1]
  have HP := Lib.hid (plainV_any typ s n W zs hn)
  generalize plainD typ s n 0 [] = D at *
  go_enter Tryz.func67, Tryz.ntmps67
  go_wp2_with fail
  (with_reducible refine HP.out.mono ?_); rintro e w1 ⟨v, l, b, rfl, hr, hd, hb⟩
  have HD := Lib.hid hd; clear hd
  go_wp2
  go_ret2
  exact PlP.mk rfl hr HD.out hb
set_option maxRecDepth 100000 in
set_option maxHeartbeats 600000 in
theorem unpay_2 : Calls Tryz.prog 67 #[.int .i64 typ, .int .i64 2, .string s, .int .i64 (n : Int)] W (PlP (payD typ 2 s n) W) := by
  rw [payD_2]
  have HLE := Lib.hid (decR_le (s := s) hn)
  have HP := Lib.hid (fun w => show Calls Tryz.prog _ #[.string s, .int .i64 (n : Int)] w (RetVE (Value.int .i64) 2 (decR s n).1 (decR s n).2 w) from rdecode_any (s := s) (hs := zs) (n := (n : Int)) (w := w))
  generalize decR s n = D at *
  obtain ⟨zl, c⟩ := D
  simp only at HP HLE ⊢
  obtain ⟨R, hR⟩ : ∃ R : Option (List Vl), (if c = 0 then some (zl.map ofN) else none) = R := ⟨_, rfl⟩
  have HR := Lib.hid (show ((((c : Int) == 0) = true ∧ R = some (zl.map ofN)) ∨ (((c : Int) == 0) = false ∧ R = none)) from by
    rw [← hR]
    by_cases hc : c = 0
    · exact .inl ⟨ieq_t (by omega), if_pos hc⟩
    · exact .inr ⟨ieq_f (by omega), if_neg hc⟩)
  rw [show (if c = 0 then some (zl.map fun x => (⟨false, x, ⟨#[]⟩⟩ : Vl)) else none) = R from hR]
  clear hR
  go_enter Tryz.func67, Tryz.ntmps67
  go_wp2_with fail
  (with_reducible refine (HP.out _).mono ?_); rintro e w1 ⟨v, rfl, hown, hb1⟩
  have HB1 := Lib.hid hb1
  have hr := hown.read
  obtain ⟨A, cc, _, rfl, rfl, hc1, hc2⟩ := hr.bds
  have HRD := Lib.hid hr
  clear hown hb1 hr
  go_wp2_with fail
  go_loopw [10, 66] (fun ov i wr => ∃ (j : Nat), i = .int .i64 j ∧ j ≤ zl.length ∧ OwnL 42 wr w1.heap.size ov ((zl.take j).map ofN) ∧ Below w1.heap.size w1 wr) (fun _ i _ => zl.length - (intOf i).toNat)
  case atStart => exact ⟨0, rfl, Nat.zero_le _, OwnL.nil _ _ _, Below.refl _ _⟩
  case round =>
    obtain ⟨j, rfl, hj, hown, hbel⟩ := hrel
    by_cases hlt : j < zl.length
    · have hln := take_map_len ofN hj
      have hle := HLE.out
      have hlj : zl[j]? = some zl[j] := List.getElem?_eq_getElem hlt
      obtain ⟨ad, rfl, _, q0⟩ := (HRD.out.below hbel).at hlj
      have HJ := Lib.hid (take_map_snoc (f := ofN) hlj); clear hlj
      generalize zl[j] = x at q0 HJ
      replace q0 : wr.cell? (ad.add j) = some (.int .i64 x) := q0
      generalize (zl.take j).map ofN = m at *
      have hszb := hbel.size
      have HX2 : Hid (RdL (wr.alloc (.cells #[.bool false, .int .i64 x, .string ⟨#[]⟩] 42)) (wr.heap.size + 1) (.slice (some ⟨wr.heap.size, 0, none⟩) 1 1) [ofN x]) := Lib.hid (RdL.lit wr [ofN x] 1 42 (Nat.le_refl 1) (by decide))
      have HO := Lib.hid (hown.alloc (.cells #[.bool false, .int .i64 x, .string ⟨#[]⟩] 42))
      have HBA := Lib.hid (hbel.alloc hszb (.cells #[.bool false, .int .i64 x, .string ⟨#[]⟩] 42))
      have HL1 := Lib.hid (show m.length + [ofN x].length ≤ 1000000 by simp only [List.length_cons, List.length_nil]; omega)
      have HL3 := Lib.hid HBA.out.size
      clear hown hbel hle
      go_wp2_with (at_builtin; refine wpl_appL rfl _ _ 28 rfl w1.heap.size 42 Tryz.underlying28 Tryz.infVal _ m rfl HO.out _ _ [ofN x] rfl HX2.out HL1.out HL3.out ?_)
      intro v' w' hown' hb' _
      go_wp2_with fail
      go_roundw
      case rel => exact ⟨j + 1, by go_num, hlt, by rw [HJ.out]; exact hown', HBA.out.trans hb'⟩
      case measure => simp [intOf] <;> omega
    · have hr2 := hown.read
      rw [take_map_all ofN (show j = zl.length by omega)] at hr2
      have HR2 := Lib.hid hr2
      have hB := bel_trans HB1.out hbel
      clear hown hr2 hbel
      rcases HR.out with ⟨e0, e1⟩ | ⟨e0, e1⟩
      · have E1 := Lib.hid e1
        clear e1
        go_wp2
        go_ret2
        exact PlP.mk rfl HR2.out (.inl ⟨rfl, E1.out⟩) hB
      · have E1 := Lib.hid e1
        clear e1
        go_wp2
        go_ret2
        exact PlP.mk rfl HR2.out (.inr ⟨rfl, E1.out⟩) hB
set_option maxRecDepth 100000 in
set_option maxHeartbeats 600000 in
theorem unpay_3 : Calls Tryz.prog 67 #[.int .i64 typ, .int .i64 3, .string s, .int .i64 (n : Int)] W (PlP (payD typ 3 s n) W) := by
  rw [payD_3]
  have HLE := Lib.hid (decD_le (s := s) hn)
  have HP := Lib.hid (fun w => show Calls Tryz.prog _ #[.string s, .int .i64 (n : Int)] w (RetVE Value.string 9 (decD s n).1 (decD s n).2 w) from rdictdec_any (s := s) (hs := zs) (n := (n : Int)) (w := w))
  generalize decD s n = D at *
  obtain ⟨zl, c⟩ := D
  simp only at HP HLE ⊢
  obtain ⟨R, hR⟩ : ∃ R : Option (List Vl), (if c = 0 then some (zl.map ofS) else none) = R := ⟨_, rfl⟩
  have HR := Lib.hid (show ((((c : Int) == 0) = true ∧ R = some (zl.map ofS)) ∨ (((c : Int) == 0) = false ∧ R = none)) from by
    rw [← hR]
    by_cases hc : c = 0
    · exact .inl ⟨ieq_t (by omega), if_pos hc⟩
    · exact .inr ⟨ieq_f (by omega), if_neg hc⟩)
  rw [show (if c = 0 then some (zl.map fun x => (⟨false, 0, x⟩ : Vl)) else none) = R from hR]
  clear hR
  go_enter Tryz.func67, Tryz.ntmps67
  go_wp2_with fail
  (with_reducible refine (HP.out _).mono ?_); rintro e w1 ⟨v, rfl, hown, hb1⟩
  have HB1 := Lib.hid hb1
  have hr := hown.read
  obtain ⟨A, cc, _, rfl, rfl, hc1, hc2⟩ := hr.bds
  have HRD := Lib.hid hr
  clear hown hb1 hr
  go_wp2_with fail
  go_loopw [10, 37] (fun ov i wr => ∃ (j : Nat), i = .int .i64 j ∧ j ≤ zl.length ∧ OwnL 42 wr w1.heap.size ov ((zl.take j).map ofS) ∧ Below w1.heap.size w1 wr) (fun _ i _ => zl.length - (intOf i).toNat)
  case atStart => exact ⟨0, rfl, Nat.zero_le _, OwnL.nil _ _ _, Below.refl _ _⟩
  case round =>
    obtain ⟨j, rfl, hj, hown, hbel⟩ := hrel
    by_cases hlt : j < zl.length
    · have hln := take_map_len ofS hj
      have hle := HLE.out
      have hlj : zl[j]? = some zl[j] := List.getElem?_eq_getElem hlt
      obtain ⟨ad, rfl, _, q0⟩ := (HRD.out.below hbel).at hlj
      have HJ := Lib.hid (take_map_snoc (f := ofS) hlj); clear hlj
      generalize zl[j] = x at q0 HJ
      replace q0 : wr.cell? (ad.add j) = some (.string x) := q0
      generalize (zl.take j).map ofS = m at *
      have hszb := hbel.size
      have HX2 : Hid (RdL (wr.alloc (.cells #[.bool false, .int .i64 0, .string x] 42)) (wr.heap.size + 1) (.slice (some ⟨wr.heap.size, 0, none⟩) 1 1) [ofS x]) := Lib.hid (RdL.lit wr [ofS x] 1 42 (Nat.le_refl 1) (by decide))
      have HO := Lib.hid (hown.alloc (.cells #[.bool false, .int .i64 0, .string x] 42))
      have HBA := Lib.hid (hbel.alloc hszb (.cells #[.bool false, .int .i64 0, .string x] 42))
      have HL1 := Lib.hid (show m.length + [ofS x].length ≤ 1000000 by simp only [List.length_cons, List.length_nil]; omega)
      have HL3 := Lib.hid HBA.out.size
      clear hown hbel hle
      go_wp2_with (at_builtin; refine wpl_appL rfl _ _ 28 rfl w1.heap.size 42 Tryz.underlying28 Tryz.infVal _ m rfl HO.out _ _ [ofS x] rfl HX2.out HL1.out HL3.out ?_)
      intro v' w' hown' hb' _
      go_wp2_with fail
      go_roundw
      case rel => exact ⟨j + 1, by go_num, hlt, by rw [HJ.out]; exact hown', HBA.out.trans hb'⟩
      case measure => simp [intOf] <;> omega
    · have hr2 := hown.read
      rw [take_map_all ofS (show j = zl.length by omega)] at hr2
      have HR2 := Lib.hid hr2
      have hB := bel_trans HB1.out hbel
      clear hown hr2 hbel
      rcases HR.out with ⟨e0, e1⟩ | ⟨e0, e1⟩
      · have E1 := Lib.hid e1
        clear e1
        go_wp2
        go_ret2
        exact PlP.mk rfl HR2.out (.inl ⟨rfl, E1.out⟩) hB
      · have E1 := Lib.hid e1
        clear e1
        go_wp2
        go_ret2
        exact PlP.mk rfl HR2.out (.inr ⟨rfl, E1.out⟩) hB
set_option maxRecDepth 100000 in
set_option maxHeartbeats 600000 in
theorem unpay_4 : Calls Tryz.prog 67 #[.int .i64 typ, .int .i64 4, .string s, .int .i64 (n : Int)] W (PlP (payD typ 4 s n) W) := by
  rw [payD_4]
  have HLE := Lib.hid (decX_le (s := s) hn)
  have HP := Lib.hid (fun w => show Calls Tryz.prog _ #[.string s, .int .i64 (n : Int)] w (RetVE (Value.int .i64) 2 (Go.DL.decX s n).1 (Go.DL.decX s n).2 w) from rddecode_any (s := s) (hs := zs) (n := (n : Int)) (w := w))
  have HPRE := Lib.hid (fun w => show Calls Tryz.prog _ #[.string s, .int .i64 (n : Int)] w (RetVE (Value.int .i64) 2 (decR s n).1 (decR s n).2 w) from rdecode_any (s := s) (hs := zs) (n := (n : Int)) (w := w))
  obtain ⟨pl, hpl⟩ : ∃ pl, decR s n = pl := ⟨_, rfl⟩
  rw [hpl] at HPRE
  clear hpl
  generalize Go.DL.decX s n = D at *
  obtain ⟨zl, c⟩ := D
  simp only at HP HLE ⊢
  obtain ⟨R, hR⟩ : ∃ R : Option (List Vl), (if c = 0 then some (zl.map ofN) else none) = R := ⟨_, rfl⟩
  have HR := Lib.hid (show ((((c : Int) == 0) = true ∧ R = some (zl.map ofN)) ∨ (((c : Int) == 0) = false ∧ R = none)) from by
    rw [← hR]
    by_cases hc : c = 0
    · exact .inl ⟨ieq_t (by omega), if_pos hc⟩
    · exact .inr ⟨ieq_f (by omega), if_neg hc⟩)
  rw [show (if c = 0 then some (zl.map fun x => (⟨false, x, ⟨#[]⟩⟩ : Vl)) else none) = R from hR]
  clear hR
  go_enter Tryz.func67, Tryz.ntmps67
  go_wp2_with fail
  (with_reducible refine (HPRE.out _).mono ?_); rintro e w0 ⟨v0, rfl, hown0, hb0⟩
  clear hown0
  go_wp2_with fail
  (with_reducible refine (HP.out _).mono ?_); rintro e w1 ⟨v, rfl, hown, hb1⟩
  have HB1 := Lib.hid (bel_trans hb0 hb1)
  clear hb0
  have hr := hown.read
  obtain ⟨A, cc, _, rfl, rfl, hc1, hc2⟩ := hr.bds
  have HRD := Lib.hid hr
  clear hown hb1 hr
  go_wp2_with fail
  go_loopw [10, 66] (fun ov i wr => ∃ (j : Nat), i = .int .i64 j ∧ j ≤ zl.length ∧ OwnL 42 wr w1.heap.size ov ((zl.take j).map ofN) ∧ Below w1.heap.size w1 wr) (fun _ i _ => zl.length - (intOf i).toNat)
  case atStart => exact ⟨0, rfl, Nat.zero_le _, OwnL.nil _ _ _, Below.refl _ _⟩
  case round =>
    obtain ⟨j, rfl, hj, hown, hbel⟩ := hrel
    by_cases hlt : j < zl.length
    · have hln := take_map_len ofN hj
      have hle := HLE.out
      have hlj : zl[j]? = some zl[j] := List.getElem?_eq_getElem hlt
      obtain ⟨ad, rfl, _, q0⟩ := (HRD.out.below hbel).at hlj
      have HJ := Lib.hid (take_map_snoc (f := ofN) hlj); clear hlj
      generalize zl[j] = x at q0 HJ
      replace q0 : wr.cell? (ad.add j) = some (.int .i64 x) := q0
      generalize (zl.take j).map ofN = m at *
      have hszb := hbel.size
      have HX2 : Hid (RdL (wr.alloc (.cells #[.bool false, .int .i64 x, .string ⟨#[]⟩] 42)) (wr.heap.size + 1) (.slice (some ⟨wr.heap.size, 0, none⟩) 1 1) [ofN x]) := Lib.hid (RdL.lit wr [ofN x] 1 42 (Nat.le_refl 1) (by decide))
      have HO := Lib.hid (hown.alloc (.cells #[.bool false, .int .i64 x, .string ⟨#[]⟩] 42))
      have HBA := Lib.hid (hbel.alloc hszb (.cells #[.bool false, .int .i64 x, .string ⟨#[]⟩] 42))
      have HL1 := Lib.hid (show m.length + [ofN x].length ≤ 1000000 by simp only [List.length_cons, List.length_nil]; omega)
      have HL3 := Lib.hid HBA.out.size
      clear hown hbel hle
      go_wp2_with (at_builtin; refine wpl_appL rfl _ _ 28 rfl w1.heap.size 42 Tryz.underlying28 Tryz.infVal _ m rfl HO.out _ _ [ofN x] rfl HX2.out HL1.out HL3.out ?_)
      intro v' w' hown' hb' _
      go_wp2_with fail
      go_roundw
      case rel => exact ⟨j + 1, by go_num, hlt, by rw [HJ.out]; exact hown', HBA.out.trans hb'⟩
      case measure => simp [intOf] <;> omega
    · have hr2 := hown.read
      rw [take_map_all ofN (show j = zl.length by omega)] at hr2
      have HR2 := Lib.hid hr2
      have hB := bel_trans HB1.out hbel
      clear hown hr2 hbel
      rcases HR.out with ⟨e0, e1⟩ | ⟨e0, e1⟩
      · have E1 := Lib.hid e1
        clear e1
        go_wp2
        go_ret2
        exact PlP.mk rfl HR2.out (.inl ⟨rfl, E1.out⟩) hB
      · have E1 := Lib.hid e1
        clear e1
        go_wp2
        go_ret2
        exact PlP.mk rfl HR2.out (.inr ⟨rfl, E1.out⟩) hB
theorem unpay_any (codec : Nat) (h1 : 1 ≤ codec) (h4 : codec ≤ 4) : Calls Tryz.prog 67 #[.int .i64 typ, .int .i64 (codec : Int), .string s, .int .i64 (n : Int)] W (PlP (payD typ codec s n) W) := by
  have h : codec = 1 ∨ codec = 2 ∨ codec = 3 ∨ codec = 4 := by omega
  rcases h with rfl | rfl | rfl | rfl
  · exact unpay_1 typ s n W zs hn
  · exact unpay_2 typ s n W zs hn
  · exact unpay_3 typ s n W zs hn
  · exact unpay_4 typ s n W zs hn
end
end Go.Proofs.YtbolbbngncnecaaGreat
