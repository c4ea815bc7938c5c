/- The walk over the reference's reading of a day's text. -/
import Derived.Test.YtidlemedkjkmdaaDateW5
namespace Go.DT
open Go.VB
theorem nm_bd {s : ByteArray} {j i n : Nat} (hf : ∀ k, k < j → fits s k) (hz : 10 ≤ s.size) (hj : j ≤ 10) (h : i + n ≤ j) (hn : n ≤ 4) (hp : i + n ≤ 4 ∨ (5 ≤ i ∧ i + n ≤ 7) ∨ 8 ≤ i) : nm s i n ≤ 9999 := by
  have h1 := nm_lt s i n (by omega) fun k hk => (fits_dig (hf (i + k) (by omega)) (by omega) (by omega)).2
  have h2 := Nat.pow_le_pow_right (n := 10) (by decide) hn
  omega
/-- The numbers that are read when j bytes have been read. -/
def vs (s : ByteArray) (j : Nat) : List Nat := [nm s 0 (min j 4), nm s 5 (min (j - 5) 2), nm s 8 (min (j - 8) 2)]
/-- The number that is being read. -/
def whichN (j : Nat) : Nat := if j ≤ 4 then 0 else if j ≤ 7 then 1 else 2
end Go.DT
namespace Go.Proofs.Ytidlemedkjkmdaa
open Go.RowKit Go.VB Go.DT
theorem made3 (v : Value) : madeCells #[v] 3 = #[v, v, v] := by
  apply Array.toList_inj.1
  rw [toList_madeCells_one]; rfl
set_option maxRecDepth 100000 in
set_option maxHeartbeats 4000000 in
theorem rparse_any (s : ByteArray) (w : World) (zs : s.size ≤ 140737488351232) : Calls Try.prog 36 #[.string s] w (RetB (.tuple #[.int .i64 (pn s), .int .i64 (pc s : Nat)]) w) := by
  have hb := get_bN s
  by_cases hz : s.size = 10
  · have hd : ((s.size : Int) != 10) = false := by rw [hz]; rfl
    have hz1 : s.size ≤ 10 := by omega
    have hz2 : 10 ≤ s.size := by omega
    have HZ := Lib.hid hz; clear hz
    have hrow := RowN.made .i64 81 w w.heap.size 3 (Nat.le_refl _) (by decide)
    rw [made3, show List.replicate 3 0 = vs s 0 from rfl] at hrow
    have hb0 : Below w.heap.size w (w.alloc (.cells #[.int .i64 0, .int .i64 0, .int .i64 0] 81)) := (Below.refl _ _).alloc (Nat.le_refl _) _
    go_enter Try.func36, Try.ntmps36
    go_wp2
    generalize (w.alloc (.cells #[.int .i64 0, .int .i64 0, .int .i64 0] 81)) = W1 at hrow hb0 ⊢
    go_loopw [5, 6] (fun p i wr => ∃ j : Nat, i = .int .i64 j ∧ p = .int .i64 (whichN j : Nat) ∧ j ≤ 10 ∧ (∀ k, k < j → fits s k) ∧ RowN .i64 81 wr w.heap.size w.heap.size 3 (vs s j) ∧ Below w.heap.size w wr) (fun _ i _ => 10 - (intOf i).toNat)
    case atStart => exact ⟨0, rfl, rfl, by decide, fun k hk => absurd hk (Nat.not_lt_zero k), hrow, hb0⟩
    case round =>
      obtain ⟨j, rfl, rfl, hj, hf, hrw, hbel⟩ := hrel
      have HFJ := Lib.hid hf; clear hf
      have hc : j = 4 ∨ j = 7 ∨ j = 10 ∨ j = 0 ∨ j = 1 ∨ j = 2 ∨ j = 3 ∨ j = 5 ∨ j = 6 ∨ j = 8 ∨ j = 9 := by omega
      clear hj
      rcases hc with rfl | rfl | rfl | rfl | rfl | rfl | rfl | rfl | rfl | rfl | rfl
      · rw [show whichN 4 = 0 from rfl]
        have hfit := fits_hyp (s := s) (i := 4) (by decide)
        have hix : bN s 4 < 256 := bN_lt s 4
        generalize hgen : bN s 4 = V at *
        have HG := Lib.hid hgen
        have HT := Lib.hid hfit; clear hfit
        by_cases hV : V = 45
        · have HV := Lib.hid hV
          have hgen2 : bN s 4 = 45 := by rw [hgen, hV]
          clear hV hgen
          go_wp2
          exact ⟨⟨4 + 1, by go_num, by go_num, by decide, snoc HFJ.out (HT.out.2 HV.out), hrw, hbel⟩, by simp [intOf]⟩
        · have hd2 : ((V : Int) != 45) = true := bne_iff_ne.2 (by omega)
          have HV := Lib.hid hV; clear hV
          have hnf := not_form (s := s) (i := 4) (by decide) fun h => HV.out (HT.out.1 h)
          rw [pn_out hnf, pc_out hnf]
          clear hnf
          go_wp2
          go_ret2
          exact RetB.mk rfl hbel
      · rw [show whichN 7 = 1 from rfl]
        have hfit := fits_hyp (s := s) (i := 7) (by decide)
        have hix : bN s 7 < 256 := bN_lt s 7
        generalize hgen : bN s 7 = V at *
        have HG := Lib.hid hgen
        have HT := Lib.hid hfit; clear hfit
        by_cases hV : V = 45
        · have HV := Lib.hid hV
          have hgen2 : bN s 7 = 45 := by rw [hgen, hV]
          clear hV hgen
          go_wp2
          exact ⟨⟨7 + 1, by go_num, by go_num, by decide, snoc HFJ.out (HT.out.2 HV.out), hrw, hbel⟩, by simp [intOf]⟩
        · have hd2 : ((V : Int) != 45) = true := bne_iff_ne.2 (by omega)
          have HV := Lib.hid hV; clear hV
          have hnf := not_form (s := s) (i := 7) (by decide) fun h => HV.out (HT.out.1 h)
          rw [pn_out hnf, pc_out hnf]
          clear hnf
          go_wp2
          go_ret2
          exact RetB.mk rfl hbel
      · have hfo : form s := ⟨HZ.out, HFJ.out⟩
        have h4 := Lib.hid (rdays_any (nm s 0 4 : Nat) (nm s 5 2 : Nat) (nm s 8 2 : Nat) wr)
        have e1 := pn_in hfo
        have e2 := pc_in hfo
        clear hfo
        have hc0 : wr.cell? ⟨w.heap.size, 0, none⟩ = some (.int .i64 (nm s 0 4 : Nat)) := hrw.cell 0 (by show 0 < 3; decide)
        have hc1 : wr.cell? ⟨w.heap.size, 1, none⟩ = some (.int .i64 (nm s 5 2 : Nat)) := hrw.cell 1 (by show 1 < 3; decide)
        have hc2 : wr.cell? ⟨w.heap.size, 2, none⟩ = some (.int .i64 (nm s 8 2 : Nat)) := hrw.cell 2 (by show 2 < 3; decide)
        generalize dn (nm s 0 4 : Nat) (nm s 5 2 : Nat) (nm s 8 2 : Nat) = N at *
        generalize dc (nm s 0 4 : Nat) (nm s 5 2 : Nat) (nm s 8 2 : Nat) = C at *
        have E1 := Lib.hid e1; have E2 := Lib.hid e2; clear e1 e2
        go_wp2_with (go_at_call 52; refine h4.out.mono ?_; rintro e w' ⟨rfl, rfl⟩)
        go_ret2
        exact RetB.mk (by rw [E1.out, E2.out]; rfl) hbel
      · rw [show whichN 0 = 0 from rfl]
        have hfit := fits_num (s := s) (i := 0) (by decide)
        have hix : bN s 0 < 256 := bN_lt s 0
        have hsu : nm s 0 (0 + 1) = nm s 0 0 * 10 + (bN s 0 - 48) := nm_succ s 0 0 (by omega)
        have hbd := nm_bd (i := 0) (n := 0) HFJ.out hz2 (by decide) (by decide) (by decide) (by decide)
        have hc : wr.cell? ⟨w.heap.size, 0, none⟩ = some (.int .i64 (nm s 0 0 : Nat)) := hrw.cell 0 (by show 0 < 3; decide)
        have hfr := hrw.frozen 0
        have hst := hrw.store 0 (nm s 0 (0 + 1))
        rw [show (vs s 0).set 0 (nm s 0 (0 + 1)) = vs s (0 + 1) from rfl] at hst
        generalize hgen : bN s 0 = V at *
        have HG := Lib.hid hgen
        generalize hnx : nm s 0 0 = x at *
        generalize nm s 0 (0 + 1) = z at *
        have HT := Lib.hid hfit; clear hfit hnx
        by_cases hV1 : V < 48
        · have hnf := not_form (s := s) (i := 0) (by decide) fun h => by have := (HT.out.1 h).1; omega
          rw [pn_out hnf, pc_out hnf]
          clear hnf
          go_wp2
          go_ret2
          exact RetB.mk rfl hbel
        by_cases hV2 : 57 < V
        · have hnf := not_form (s := s) (i := 0) (by decide) fun h => by have := (HT.out.1 h).2; omega
          rw [pn_out hnf, pc_out hnf]
          clear hnf
          go_wp2
          go_ret2
          exact RetB.mk rfl hbel
        · have he : (10 * (x : Int) + ((V : Int) - 48)) = (z : Int) := by omega
          have HE := Lib.hid he; clear he hsu
          go_wp2
          go_region
          go_wp2
          exact ⟨⟨0 + 1, by go_num, by go_num, by decide, snoc HFJ.out (HT.out.2 ⟨by omega, by omega⟩), by rw [HE.out]; exact hst.drew, (hbel.setCell (Nat.le_refl _) _).drew⟩, by simp [intOf]⟩
      · rw [show whichN 1 = 0 from rfl]
        have hfit := fits_num (s := s) (i := 1) (by decide)
        have hix : bN s 1 < 256 := bN_lt s 1
        have hsu : nm s 0 (1 + 1) = nm s 0 1 * 10 + (bN s 1 - 48) := nm_succ s 0 1 (by omega)
        have hbd := nm_bd (i := 0) (n := 1) HFJ.out hz2 (by decide) (by decide) (by decide) (by decide)
        have hc : wr.cell? ⟨w.heap.size, 0, none⟩ = some (.int .i64 (nm s 0 1 : Nat)) := hrw.cell 0 (by show 0 < 3; decide)
        have hfr := hrw.frozen 0
        have hst := hrw.store 0 (nm s 0 (1 + 1))
        rw [show (vs s 1).set 0 (nm s 0 (1 + 1)) = vs s (1 + 1) from rfl] at hst
        generalize hgen : bN s 1 = V at *
        have HG := Lib.hid hgen
        generalize hnx : nm s 0 1 = x at *
        generalize nm s 0 (1 + 1) = z at *
        have HT := Lib.hid hfit; clear hfit hnx
        by_cases hV1 : V < 48
        · have hnf := not_form (s := s) (i := 1) (by decide) fun h => by have := (HT.out.1 h).1; omega
          rw [pn_out hnf, pc_out hnf]
          clear hnf
          go_wp2
          go_ret2
          exact RetB.mk rfl hbel
        by_cases hV2 : 57 < V
        · have hnf := not_form (s := s) (i := 1) (by decide) fun h => by have := (HT.out.1 h).2; omega
          rw [pn_out hnf, pc_out hnf]
          clear hnf
          go_wp2
          go_ret2
          exact RetB.mk rfl hbel
        · have he : (10 * (x : Int) + ((V : Int) - 48)) = (z : Int) := by omega
          have HE := Lib.hid he; clear he hsu
          go_wp2
          go_region
          go_wp2
          exact ⟨⟨1 + 1, by go_num, by go_num, by decide, snoc HFJ.out (HT.out.2 ⟨by omega, by omega⟩), by rw [HE.out]; exact hst.drew, (hbel.setCell (Nat.le_refl _) _).drew⟩, by simp [intOf]⟩
      · rw [show whichN 2 = 0 from rfl]
        have hfit := fits_num (s := s) (i := 2) (by decide)
        have hix : bN s 2 < 256 := bN_lt s 2
        have hsu : nm s 0 (2 + 1) = nm s 0 2 * 10 + (bN s 2 - 48) := nm_succ s 0 2 (by omega)
        have hbd := nm_bd (i := 0) (n := 2) HFJ.out hz2 (by decide) (by decide) (by decide) (by decide)
        have hc : wr.cell? ⟨w.heap.size, 0, none⟩ = some (.int .i64 (nm s 0 2 : Nat)) := hrw.cell 0 (by show 0 < 3; decide)
        have hfr := hrw.frozen 0
        have hst := hrw.store 0 (nm s 0 (2 + 1))
        rw [show (vs s 2).set 0 (nm s 0 (2 + 1)) = vs s (2 + 1) from rfl] at hst
        generalize hgen : bN s 2 = V at *
        have HG := Lib.hid hgen
        generalize hnx : nm s 0 2 = x at *
        generalize nm s 0 (2 + 1) = z at *
        have HT := Lib.hid hfit; clear hfit hnx
        by_cases hV1 : V < 48
        · have hnf := not_form (s := s) (i := 2) (by decide) fun h => by have := (HT.out.1 h).1; omega
          rw [pn_out hnf, pc_out hnf]
          clear hnf
          go_wp2
          go_ret2
          exact RetB.mk rfl hbel
        by_cases hV2 : 57 < V
        · have hnf := not_form (s := s) (i := 2) (by decide) fun h => by have := (HT.out.1 h).2; omega
          rw [pn_out hnf, pc_out hnf]
          clear hnf
          go_wp2
          go_ret2
          exact RetB.mk rfl hbel
        · have he : (10 * (x : Int) + ((V : Int) - 48)) = (z : Int) := by omega
          have HE := Lib.hid he; clear he hsu
          go_wp2
          go_region
          go_wp2
          exact ⟨⟨2 + 1, by go_num, by go_num, by decide, snoc HFJ.out (HT.out.2 ⟨by omega, by omega⟩), by rw [HE.out]; exact hst.drew, (hbel.setCell (Nat.le_refl _) _).drew⟩, by simp [intOf]⟩
      · rw [show whichN 3 = 0 from rfl]
        have hfit := fits_num (s := s) (i := 3) (by decide)
        have hix : bN s 3 < 256 := bN_lt s 3
        have hsu : nm s 0 (3 + 1) = nm s 0 3 * 10 + (bN s 3 - 48) := nm_succ s 0 3 (by omega)
        have hbd := nm_bd (i := 0) (n := 3) HFJ.out hz2 (by decide) (by decide) (by decide) (by decide)
        have hc : wr.cell? ⟨w.heap.size, 0, none⟩ = some (.int .i64 (nm s 0 3 : Nat)) := hrw.cell 0 (by show 0 < 3; decide)
        have hfr := hrw.frozen 0
        have hst := hrw.store 0 (nm s 0 (3 + 1))
        rw [show (vs s 3).set 0 (nm s 0 (3 + 1)) = vs s (3 + 1) from rfl] at hst
        generalize hgen : bN s 3 = V at *
        have HG := Lib.hid hgen
        generalize hnx : nm s 0 3 = x at *
        generalize nm s 0 (3 + 1) = z at *
        have HT := Lib.hid hfit; clear hfit hnx
        by_cases hV1 : V < 48
        · have hnf := not_form (s := s) (i := 3) (by decide) fun h => by have := (HT.out.1 h).1; omega
          rw [pn_out hnf, pc_out hnf]
          clear hnf
          go_wp2
          go_ret2
          exact RetB.mk rfl hbel
        by_cases hV2 : 57 < V
        · have hnf := not_form (s := s) (i := 3) (by decide) fun h => by have := (HT.out.1 h).2; omega
          rw [pn_out hnf, pc_out hnf]
          clear hnf
          go_wp2
          go_ret2
          exact RetB.mk rfl hbel
        · have he : (10 * (x : Int) + ((V : Int) - 48)) = (z : Int) := by omega
          have HE := Lib.hid he; clear he hsu
          go_wp2
          go_region
          go_wp2
          exact ⟨⟨3 + 1, by go_num, by go_num, by decide, snoc HFJ.out (HT.out.2 ⟨by omega, by omega⟩), by rw [HE.out]; exact hst.drew, (hbel.setCell (Nat.le_refl _) _).drew⟩, by simp [intOf]⟩
      · rw [show whichN 5 = 1 from rfl]
        have hfit := fits_num (s := s) (i := 5) (by decide)
        have hix : bN s 5 < 256 := bN_lt s 5
        have hsu : nm s 5 (0 + 1) = nm s 5 0 * 10 + (bN s 5 - 48) := nm_succ s 5 0 (by omega)
        have hbd := nm_bd (i := 5) (n := 0) HFJ.out hz2 (by decide) (by decide) (by decide) (by decide)
        have hc : wr.cell? ⟨w.heap.size, 1, none⟩ = some (.int .i64 (nm s 5 0 : Nat)) := hrw.cell 1 (by show 1 < 3; decide)
        have hfr := hrw.frozen 1
        have hst := hrw.store 1 (nm s 5 (0 + 1))
        rw [show (vs s 5).set 1 (nm s 5 (0 + 1)) = vs s (5 + 1) from rfl] at hst
        generalize hgen : bN s 5 = V at *
        have HG := Lib.hid hgen
        generalize hnx : nm s 5 0 = x at *
        generalize nm s 5 (0 + 1) = z at *
        have HT := Lib.hid hfit; clear hfit hnx
        by_cases hV1 : V < 48
        · have hnf := not_form (s := s) (i := 5) (by decide) fun h => by have := (HT.out.1 h).1; omega
          rw [pn_out hnf, pc_out hnf]
          clear hnf
          go_wp2
          go_ret2
          exact RetB.mk rfl hbel
        by_cases hV2 : 57 < V
        · have hnf := not_form (s := s) (i := 5) (by decide) fun h => by have := (HT.out.1 h).2; omega
          rw [pn_out hnf, pc_out hnf]
          clear hnf
          go_wp2
          go_ret2
          exact RetB.mk rfl hbel
        · have he : (10 * (x : Int) + ((V : Int) - 48)) = (z : Int) := by omega
          have HE := Lib.hid he; clear he hsu
          go_wp2
          go_region
          go_wp2
          exact ⟨⟨5 + 1, by go_num, by go_num, by decide, snoc HFJ.out (HT.out.2 ⟨by omega, by omega⟩), by rw [HE.out]; exact hst.drew, (hbel.setCell (Nat.le_refl _) _).drew⟩, by simp [intOf]⟩
      · rw [show whichN 6 = 1 from rfl]
        have hfit := fits_num (s := s) (i := 6) (by decide)
        have hix : bN s 6 < 256 := bN_lt s 6
        have hsu : nm s 5 (1 + 1) = nm s 5 1 * 10 + (bN s 6 - 48) := nm_succ s 5 1 (by omega)
        have hbd := nm_bd (i := 5) (n := 1) HFJ.out hz2 (by decide) (by decide) (by decide) (by decide)
        have hc : wr.cell? ⟨w.heap.size, 1, none⟩ = some (.int .i64 (nm s 5 1 : Nat)) := hrw.cell 1 (by show 1 < 3; decide)
        have hfr := hrw.frozen 1
        have hst := hrw.store 1 (nm s 5 (1 + 1))
        rw [show (vs s 6).set 1 (nm s 5 (1 + 1)) = vs s (6 + 1) from rfl] at hst
        generalize hgen : bN s 6 = V at *
        have HG := Lib.hid hgen
        generalize hnx : nm s 5 1 = x at *
        generalize nm s 5 (1 + 1) = z at *
        have HT := Lib.hid hfit; clear hfit hnx
        by_cases hV1 : V < 48
        · have hnf := not_form (s := s) (i := 6) (by decide) fun h => by have := (HT.out.1 h).1; omega
          rw [pn_out hnf, pc_out hnf]
          clear hnf
          go_wp2
          go_ret2
          exact RetB.mk rfl hbel
        by_cases hV2 : 57 < V
        · have hnf := not_form (s := s) (i := 6) (by decide) fun h => by have := (HT.out.1 h).2; omega
          rw [pn_out hnf, pc_out hnf]
          clear hnf
          go_wp2
          go_ret2
          exact RetB.mk rfl hbel
        · have he : (10 * (x : Int) + ((V : Int) - 48)) = (z : Int) := by omega
          have HE := Lib.hid he; clear he hsu
          go_wp2
          go_region
          go_wp2
          exact ⟨⟨6 + 1, by go_num, by go_num, by decide, snoc HFJ.out (HT.out.2 ⟨by omega, by omega⟩), by rw [HE.out]; exact hst.drew, (hbel.setCell (Nat.le_refl _) _).drew⟩, by simp [intOf]⟩
      · rw [show whichN 8 = 2 from rfl]
        have hfit := fits_num (s := s) (i := 8) (by decide)
        have hix : bN s 8 < 256 := bN_lt s 8
        have hsu : nm s 8 (0 + 1) = nm s 8 0 * 10 + (bN s 8 - 48) := nm_succ s 8 0 (by omega)
        have hbd := nm_bd (i := 8) (n := 0) HFJ.out hz2 (by decide) (by decide) (by decide) (by decide)
        have hc : wr.cell? ⟨w.heap.size, 2, none⟩ = some (.int .i64 (nm s 8 0 : Nat)) := hrw.cell 2 (by show 2 < 3; decide)
        have hfr := hrw.frozen 2
        have hst := hrw.store 2 (nm s 8 (0 + 1))
        rw [show (vs s 8).set 2 (nm s 8 (0 + 1)) = vs s (8 + 1) from rfl] at hst
        generalize hgen : bN s 8 = V at *
        have HG := Lib.hid hgen
        generalize hnx : nm s 8 0 = x at *
        generalize nm s 8 (0 + 1) = z at *
        have HT := Lib.hid hfit; clear hfit hnx
        by_cases hV1 : V < 48
        · have hnf := not_form (s := s) (i := 8) (by decide) fun h => by have := (HT.out.1 h).1; omega
          rw [pn_out hnf, pc_out hnf]
          clear hnf
          go_wp2
          go_ret2
          exact RetB.mk rfl hbel
        by_cases hV2 : 57 < V
        · have hnf := not_form (s := s) (i := 8) (by decide) fun h => by have := (HT.out.1 h).2; omega
          rw [pn_out hnf, pc_out hnf]
          clear hnf
          go_wp2
          go_ret2
          exact RetB.mk rfl hbel
        · have he : (10 * (x : Int) + ((V : Int) - 48)) = (z : Int) := by omega
          have HE := Lib.hid he; clear he hsu
          go_wp2
          go_region
          go_wp2
          exact ⟨⟨8 + 1, by go_num, by go_num, by decide, snoc HFJ.out (HT.out.2 ⟨by omega, by omega⟩), by rw [HE.out]; exact hst.drew, (hbel.setCell (Nat.le_refl _) _).drew⟩, by simp [intOf]⟩
      · rw [show whichN 9 = 2 from rfl]
        have hfit := fits_num (s := s) (i := 9) (by decide)
        have hix : bN s 9 < 256 := bN_lt s 9
        have hsu : nm s 8 (1 + 1) = nm s 8 1 * 10 + (bN s 9 - 48) := nm_succ s 8 1 (by omega)
        have hbd := nm_bd (i := 8) (n := 1) HFJ.out hz2 (by decide) (by decide) (by decide) (by decide)
        have hc : wr.cell? ⟨w.heap.size, 2, none⟩ = some (.int .i64 (nm s 8 1 : Nat)) := hrw.cell 2 (by show 2 < 3; decide)
        have hfr := hrw.frozen 2
        have hst := hrw.store 2 (nm s 8 (1 + 1))
        rw [show (vs s 9).set 2 (nm s 8 (1 + 1)) = vs s (9 + 1) from rfl] at hst
        generalize hgen : bN s 9 = V at *
        have HG := Lib.hid hgen
        generalize hnx : nm s 8 1 = x at *
        generalize nm s 8 (1 + 1) = z at *
        have HT := Lib.hid hfit; clear hfit hnx
        by_cases hV1 : V < 48
        · have hnf := not_form (s := s) (i := 9) (by decide) fun h => by have := (HT.out.1 h).1; omega
          rw [pn_out hnf, pc_out hnf]
          clear hnf
          go_wp2
          go_ret2
          exact RetB.mk rfl hbel
        by_cases hV2 : 57 < V
        · have hnf := not_form (s := s) (i := 9) (by decide) fun h => by have := (HT.out.1 h).2; omega
          rw [pn_out hnf, pc_out hnf]
          clear hnf
          go_wp2
          go_ret2
          exact RetB.mk rfl hbel
        · have he : (10 * (x : Int) + ((V : Int) - 48)) = (z : Int) := by omega
          have HE := Lib.hid he; clear he hsu
          go_wp2
          go_region
          go_wp2
          exact ⟨⟨9 + 1, by go_num, by go_num, by decide, snoc HFJ.out (HT.out.2 ⟨by omega, by omega⟩), by rw [HE.out]; exact hst.drew, (hbel.setCell (Nat.le_refl _) _).drew⟩, by simp [intOf]⟩
  · have hf : ¬ form s := fun h => hz h.1
    have hd : ((s.size : Int) != 10) = true := by simp; omega
    rw [pn_out hf, pc_out hf]
    clear hz hf
    go_enter Try.func36, Try.ntmps36
    go_wp2
    go_ret2
    exact RetB.mk rfl (Below.refl _ _)
end Go.Proofs.Ytidlemedkjkmdaa
