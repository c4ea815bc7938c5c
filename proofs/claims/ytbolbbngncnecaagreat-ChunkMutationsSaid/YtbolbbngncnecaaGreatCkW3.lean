/- The walks over the checksum of a chunk: checksum, contentOf, the reference's Four, Crc. -/
import Derived.Test.YtbolbbngncnecaaGreatCkW1
import Derived.Deep.RegionWith
namespace Go.CK
open Go.RowKit Go.VB Go.VS
theorem bv_mod {n : Nat} (c : Nat) (h : c % 256 = n) : bv (UInt8.ofNat n) = .int .u8 ((n : Nat) : Int) := by
  show Value.int .u8 ((UInt8.ofNat n).toNat : Int) = _
  rw [← h, u8_mod]
set_option maxRecDepth 100000 in
theorem four_own (e : TypeId) (W : World) (c : Nat) (hc : c < 4294967296) (m : Nat) (hm : 4 ≤ m) (hm2 : m ≤ 4) : OwnB e (W.alloc (.cells #[.int .u8 ((c : Int) % 256), .int .u8 ((c : Int) / 256 % 256), .int .u8 ((c : Int) / 65536 % 256), .int .u8 ((c : Int) / 16777216)] e)) W.heap.size (.slice (some ⟨W.heap.size, 0, none⟩) 4 m) (four c) := by
  obtain rfl : m = 4 := by omega
  have h := World.ownsRow_lit (base := W.heap.size) (e := e) (size := 1) W #[.int .u8 ((c : Int) % 256), .int .u8 ((c : Int) / 256 % 256), .int .u8 ((c : Int) / 65536 % 256), .int .u8 ((c : Int) / 16777216)] 4 (Nat.le_refl _) (by decide) rfl
  have e0 : (four c).map bv = [.int .u8 ((c : Int) % 256), .int .u8 ((c : Int) / 256 % 256), .int .u8 ((c : Int) / 65536 % 256), .int .u8 ((c : Int) / 16777216)] := by
    show [bv _, bv _, bv _, bv _] = _
    rw [bv_mod c rfl, bv_mod (c / 256) rfl, bv_mod (c / 65536) rfl, bv_mod (c / 16777216) rfl, Nat.mod_eq_of_lt (show c / 16777216 < 256 by omega)]
    rfl
  show World.ownsRow _ _ e 1 _ 4 ((four c).map bv)
  rw [e0]
  exact h
end Go.CK
namespace Go.Proofs.YtbolbbngncnecaaGreat
open Go.RowKit Go.VB Go.VarM Go.BP Go.RL Go.VS Go.VL Go.DI Go.CK Go.CR
set_option maxRecDepth 100000 in
set_option maxHeartbeats 1000000 in
theorem four_any (c : Nat) (W : World) (hc : c < 4294967296) : Calls Tryz.prog 18 #[.int .u32 (c : Int)] W (RetB (.string (str (four c))) W) := by
  have hcv := run_string_of_own (P := Tryz.prog) 30 9 5 Tryz.underlying30 Tryz.underlying5 Tryz.underlying9 (four_own 5 W c hc 4 (by decide) (by decide))
  have hb : Below W.heap.size W (W.alloc (.cells #[.int .u8 ((c : Int) % 256), .int .u8 ((c : Int) / 256 % 256), .int .u8 ((c : Int) / 65536 % 256), .int .u8 ((c : Int) / 16777216)] 5)) := (Below.refl _ _).alloc (Nat.le_refl _) _
  generalize str (four c) = S at *
  go_enter Tryz.func18, Tryz.ntmps18
  go_wp2
  go_ret
  exact RetB.mk rfl hb
set_option maxRecDepth 100000 in
set_option maxHeartbeats 400000 in
theorem crcref_any (s : ByteArray) (w : World) (zs : s.size ≤ 140737488351232) : Calls Tryz.prog 19 #[.string s] w (RetB (.int .u32 (crcL s.data.toList : Nat)) w) := by
  go_enter Tryz.func19, Tryz.ntmps19
  go_wp2_with fail
  refine (rtable_any _).mono ?_
  rintro e w1 ⟨v, rfl, hown, hB⟩
  go_wp2_with fail
  refine (rsum_any v tab s w1 hown.read Go.CR.tab_lt zs).mono ?_
  rintro e w2 ⟨rfl, rfl⟩
  go_wp2
  go_ret
  exact RetB.mk rfl hB
set_option maxRecDepth 100000 in
set_option maxHeartbeats 2000000 in
theorem checksum_any (s : ByteArray) (W : World) (zs : s.size ≤ 140737488351232) : Calls Tryz.prog 32 #[.string s] W (RetB (.string (str (four (crcL s.data.toList)))) W) := by
  have hS := fun v w (h : RdN .u32 w w.heap.size v tab) => csum_any v tab s w h Go.CR.tab_lt zs
  have hcl := crcL_lt s.data.toList
  unfold crcL at *
  generalize sumL tab s.data.toList = c at *
  have HS := Lib.hid hS; clear hS
  have hz : (Value.int .u8 0) = bv 0 := rfl
  go_enter Tryz.func32, Tryz.ntmps32
  go_wp2_with fail
  refine (ctable_any _).mono ?_
  rintro e w1 ⟨v, rfl, hown, hB⟩
  go_wp2_with fail
  refine (HS.out v w1 hown.read).mono ?_
  rintro e w2 ⟨rfl, rfl⟩
  clear HS
  have hmk := run_makeV (P := Tryz.prog) (z := .int .u8 0) rfl Tryz.underlying30 Tryz.inf8 4 (by omega) (by decide) w1
  have hrow := RowV.made bv 0 5 w1 w1.heap.size 4 (Nat.le_refl _) (by decide)
  have hb0 : Below w1.heap.size w1 (w1.alloc (.cells (madeCells #[.int .u8 0] 4) 5)) := (Below.refl _ _).alloc (Nat.le_refl _) _
  change RowV bv 5 (w1.alloc (.cells (madeCells #[.int .u8 0] 4) 5)) w1.heap.size w1.heap.size 4 (List.replicate 4 0) at hrow
  have hmk1 : (Instr.makeSlice 30 (.int .i64 4) (.int .i64 4)).run Tryz.prog w1 = .ok (.slice (some ⟨w1.heap.size, 0, none⟩) 4 4) (w1.alloc (.cells (madeCells #[.int .u8 0] 4) 5)) := hmk
  clear hmk hown
  generalize w1.alloc (.cells (madeCells #[.int .u8 0] 4) 5) = W2 at *
  go_wp2
  clear hmk1
  go_loopw [12] (fun i wr => ∃ (j : Nat) (ls : List UInt8), i = .int .i64 j ∧ j ≤ 4 ∧ RowV bv 5 wr w1.heap.size w1.heap.size 4 ls ∧ ls.length = 4 ∧ ls = (four c).take j ++ List.replicate (4 - j) 0 ∧ Below w1.heap.size w1 wr) (fun i _ => 4 - (intOf i).toNat)
  case atStart => exact ⟨0, _, rfl, Nat.zero_le _, hrow, rfl, rfl, hb0⟩
  case round =>
    clear hrow hb0
    obtain ⟨j, ls, rfl, hj, hrw, hlen, hls, hbel⟩ := hrel
    have HL := Lib.hid hlen; have HLS := Lib.hid hls; clear hlen hls
    have h4 : j = 0 ∨ j = 1 ∨ j = 2 ∨ j = 3 ∨ j = 4 := by omega
    rcases h4 with rfl | rfl | rfl | rfl | rfl
    · have hc := hrw.cell 0 0 (by rw [HLS.out]; rfl)
      have hfz := hrw.frozen 0
      have ev : bv (UInt8.ofNat (c % 256)) = .int .u8 ((c:Int)%256) := by rw [bv_mod c rfl]; congr 1 <;> omega
      have hst := hrw.store 0 (UInt8.ofNat (c % 256))
      rw [ev] at hst
      have HST := Lib.hid hst
      have HN := Lib.hid (show ls.set 0 (UInt8.ofNat (c % 256)) = (four c).take (0 + 1) ++ List.replicate (4 - (0 + 1)) 0 by rw [HLS.out]; rfl)
      have hgl := hrw.lt.2
      clear hst ev hrw
      go_wp2_with fail
      go_roundw
      case rel => exact ⟨0 + 1, _, by go_num, by omega, HST.out, by rw [List.length_set]; exact HL.out, HN.out, hbel.setCell (Nat.le_refl _) _⟩
      case measure => simp [intOf] <;> omega
    · have hc := hrw.cell 1 0 (by rw [HLS.out]; rfl)
      have hfz := hrw.frozen 1
      have ev : bv (UInt8.ofNat ((c/256) % 256)) = .int .u8 ((c:Int)/256%256) := by rw [bv_mod (c/256) rfl]; congr 1 <;> omega
      have hst := hrw.store 1 (UInt8.ofNat ((c/256) % 256))
      rw [ev] at hst
      have HST := Lib.hid hst
      have HN := Lib.hid (show ls.set 1 (UInt8.ofNat ((c/256) % 256)) = (four c).take (1 + 1) ++ List.replicate (4 - (1 + 1)) 0 by rw [HLS.out]; rfl)
      have hgl := hrw.lt.2
      clear hst ev hrw
      go_wp2_with fail
      go_roundw
      case rel => exact ⟨1 + 1, _, by go_num, by omega, HST.out, by rw [List.length_set]; exact HL.out, HN.out, hbel.setCell (Nat.le_refl _) _⟩
      case measure => simp [intOf] <;> omega
    · have hc := hrw.cell 2 0 (by rw [HLS.out]; rfl)
      have hfz := hrw.frozen 2
      have ev : bv (UInt8.ofNat ((c/65536) % 256)) = .int .u8 ((c:Int)/65536%256) := by rw [bv_mod (c/65536) rfl]; congr 1 <;> omega
      have hst := hrw.store 2 (UInt8.ofNat ((c/65536) % 256))
      rw [ev] at hst
      have HST := Lib.hid hst
      have HN := Lib.hid (show ls.set 2 (UInt8.ofNat ((c/65536) % 256)) = (four c).take (2 + 1) ++ List.replicate (4 - (2 + 1)) 0 by rw [HLS.out]; rfl)
      have hgl := hrw.lt.2
      clear hst ev hrw
      go_wp2_with fail
      go_roundw
      case rel => exact ⟨2 + 1, _, by go_num, by omega, HST.out, by rw [List.length_set]; exact HL.out, HN.out, hbel.setCell (Nat.le_refl _) _⟩
      case measure => simp [intOf] <;> omega
    · have hc := hrw.cell 3 0 (by rw [HLS.out]; rfl)
      have hfz := hrw.frozen 3
      have ev : bv (UInt8.ofNat ((c/16777216) % 256)) = .int .u8 ((c:Int)/16777216) := by rw [bv_mod (c/16777216) rfl]; congr 1 <;> omega
      have hst := hrw.store 3 (UInt8.ofNat ((c/16777216) % 256))
      rw [ev] at hst
      have HST := Lib.hid hst
      have HN := Lib.hid (show ls.set 3 (UInt8.ofNat ((c/16777216) % 256)) = (four c).take (3 + 1) ++ List.replicate (4 - (3 + 1)) 0 by rw [HLS.out]; rfl)
      have hgl := hrw.lt.2
      clear hst ev hrw
      go_wp2_with fail
      go_roundw
      case rel => exact ⟨3 + 1, _, by go_num, by omega, HST.out, by rw [List.length_set]; exact HL.out, HN.out, hbel.setCell (Nat.le_refl _) _⟩
      case measure => simp [intOf] <;> omega
    · have hF : ls = four c := by rw [HLS.out]; rfl
      have hown : OwnB 5 wr w1.heap.size (.slice (some ⟨w1.heap.size, 0, none⟩) 4 4) (four c) := by
        have := hrw.own_at HL.out hF
        exact this
      have hcv := run_string_of_own (P := Tryz.prog) 30 9 5 Tryz.underlying30 Tryz.underlying5 Tryz.underlying9 hown
      clear hrw hown hF
      generalize str (four c) = S at *
      go_wp2
      go_ret
      exact RetB.mk rfl (bel_trans hB hbel)
set_option maxRecDepth 100000 in
set_option maxHeartbeats 2000000 in
theorem content_short (s : ByteArray) (W : World) (h : s.size < 5) : Calls Tryz.prog 33 #[.string s] W (RetB (.tuple #[.string ⟨#[]⟩, .int .i64 10]) W) := by
  have hd : decide ((s.size : Int) < 5) = true := decide_eq_true (by omega)
  go_enter Tryz.func33, Tryz.ntmps33
  go_wp2
  go_ret2
  exact RetB.mk rfl (Below.refl _ _)
set_option maxRecDepth 100000 in
set_option maxHeartbeats 2000000 in
theorem content_go (s T U F : ByteArray) (n : Nat) (b : Bool) (W : World) (zs : s.size ≤ 140737488351232) (hn : s.size = n + 4) (h1 : 1 ≤ n) (hT : s.extract 0 (s.size - 4) = T) (hU : s.extract n s.size = U) (hF : str (four (crcL T.data.toList)) = F) (hd : (U.toList == F.toList) = b) :
    Calls Tryz.prog 33 #[.string s] W (RetB (.tuple #[.string (if b then T else ⟨#[]⟩), .int .i64 (if b then 0 else 9 : Nat)]) W) := by
  have hTs : T.size = n := by rw [← hT, ByteArray.size_extract]; omega
  have HC := fun w => Lib.hid (checksum_any T w (by omega))
  rw [hF] at HC
  clear hF
  have hd5 : decide ((s.size : Int) < 5) = false := decide_eq_false (by omega)
  have hle : (n : Int) ≤ (s.size : Int) := by omega
  have h4 : (4 : Int) ≤ (s.size : Int) := by omega
  have h4' : (s.size : Int) - 4 ≤ (s.size : Int) := by omega
  have HN := Lib.hid hn; clear hn
  go_enter Tryz.func33, Tryz.ntmps33
  cases b
  all_goals
    go_wp2_with fail
    go_region_with (first | (go_at_call 32; (with_reducible refine (HC _).out.mono ?_); rintro e w' ⟨rfl, hb⟩))
    all_goals
      go_wp2
      go_ret2
      exact RetB.mk rfl (bel_trans (by go_grown) hb)
theorem content_any (s : ByteArray) (W : World) (zs : s.size ≤ 140737488351232) :
    Calls Tryz.prog 33 #[.string s] W (RetB (.tuple #[.string (if soundN s = 0 then s.extract 0 (s.size - 4) else ⟨#[]⟩), .int .i64 (soundN s : Nat)]) W) := by
  by_cases h5 : s.size < 5
  · rw [soundN_short h5]
    exact content_short s W h5
  · have h := content_go s _ _ _ (s.size - 4) _ W zs (by omega) (by omega) rfl rfl rfl rfl
    have hc := crcL_lt (s.extract 0 (s.size - 4)).data.toList
    by_cases he : wordN s (s.size - 4) = crcL (s.extract 0 (s.size - 4)).data.toList
    · rw [soundN_ok (by omega) he]
      rw [text_eq ((last_four (by omega) hc).2 he)] at h
      exact h
    · rw [soundN_bad (by omega) he]
      rw [text_ne (fun e => he ((last_four (by omega) hc).1 e))] at h
      exact h
end Go.Proofs.YtbolbbngncnecaaGreat
