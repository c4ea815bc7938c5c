/- The walks over the law's column and near. -/
import Derived.Test.YtidlemedkjkmdaaValW4
namespace Go.Proofs.Ytidlemedkjkmdaa
open Go.RowKit Go.VB Go.VL
def ctyp (t : Int) : Int := 1 + pickN t 5
def cscale (t k : Int) : Int := if ctyp t = 5 then pickN k 19 else 0
theorem ctyp_bd (t : Int) : 1 ≤ ctyp t ∧ ctyp t ≤ 5 := by have := pickN_bd t (n := 5) (by omega); unfold ctyp; omega
theorem cscale_bd (t k : Int) : 0 ≤ cscale t k ∧ cscale t k ≤ 18 := by
  have := pickN_bd k (n := 19) (by omega)
  unfold cscale; split <;> omega
/-- The name of a column. -/
def xs : ByteArray := ⟨#[120]⟩
def nears : List Int := [0, 1, 2, -1, -719162, -719163, 2932896, 2932897, 999999999999999999, 1000000000000000000, -999999999999999999, -1000000000000000000]
def nearI (n : Int) : Int := pickN (wrap64 (n.tdiv 5)) 12
def nearN (n : Int) : Int := nears.getD (nearI n).toNat 0
def nearB (n : Int) : Bool := pickN n 5 == 0
set_option maxRecDepth 100000 in
set_option maxHeartbeats 1000000 in
theorem col_any (t k : Int) (b : Bool) (w : World) (ht : (Lit.int .i64 t).wf = true) (hk : (Lit.int .i64 k).wf = true) :
    Calls Try.prog 9 #[.int .i64 t, .int .i64 k, .bool b] w (RetB (.agg #[.string xs, .int .i64 (ctyp t), .int .i64 (cscale t k), .bool b]) w) := by
  have H1 := fun w => Lib.hid (pick_at t 5 w ht (by omega) (by omega))
  have H2 := fun w => Lib.hid (pick_at k 19 w hk (by omega) (by omega))
  have hp := pickN_bd t (n := 5) (by omega)
  have hx : xs = ⟨#[120]⟩ := rfl
  have HC : cscale t k = if 1 + pickN t 5 = 5 then pickN k 19 else 0 := rfl
  have HT : ctyp t = 1 + pickN t 5 := rfl
  rw [HC, HT, hx]
  clear HC HT hx
  generalize pickN t 5 = p at *
  generalize pickN k 19 = q at *
  have hw : wrap64 (1 + p) = 1 + p := by unfold wrap64; omega
  by_cases h5 : 1 + p = 5
  · obtain rfl : p = 4 := by omega
    rw [if_pos h5]
    clear hw h5
    go_enter Try.func9, Try.ntmps9
    go_wp2_with (first | (go_at_call 19; (with_reducible refine (H1 _).out.mono ?_); rintro e w' ⟨rfl, rfl⟩) | (go_at_call 19; (with_reducible refine (H2 _).out.mono ?_); rintro e w' ⟨rfl, rfl⟩))
    refine bodyPost_ret (v := (.agg #[.string ⟨#[120]⟩, .int .i64 5, .int .i64 q, .bool b])) (by simp [results, Try.results9, go_sem]) rfl ?_
    exact RetB.mk rfl (by go_grown)
  · rw [if_neg h5]
    obtain ⟨m, hm⟩ : ∃ m, 1 + p = m := ⟨_, rfl⟩
    rw [hm] at hw h5
    have hw' : wrap64 (1 + p) = m := by rw [hm]; exact hw
    have e5 := ieq_f h5
    rw [hm]
    clear h5 hw
    go_enter Try.func9, Try.ntmps9
    go_wp2_with (go_at_call 19; refine (H1 _).out.mono ?_; rintro e w' ⟨rfl, rfl⟩)
    refine bodyPost_ret (v := (.agg #[.string ⟨#[120]⟩, .int .i64 m, .int .i64 0, .bool b])) (by simp [results, Try.results9, go_sem, *]) rfl ?_
    exact RetB.mk rfl (by go_grown)
set_option maxRecDepth 100000 in
set_option maxHeartbeats 2000000 in
theorem near_any (n : Int) (s : ByteArray) (w : World) (hn : (Lit.int .i64 n).wf = true) :
    Calls Try.prog 13 #[.int .i64 n, .string s] w (RetB (.agg #[.bool (nearB n), .int .i64 (nearN n), .string s]) w) := by
  have H1 := fun w => Lib.hid (pick_at n 5 w hn (by omega) (by omega))
  have H2 := fun w => Lib.hid (pick_at (wrap64 (n.tdiv 5)) 12 w (wrap64_wf _) (by omega) (by omega))
  have hp := pickN_bd (wrap64 (n.tdiv 5)) (n := 12) (by omega)
  have hb : nearB n = (pickN n 5 == 0) := rfl
  have hN : nearN n = nears.getD (pickN (wrap64 (n.tdiv 5)) 12).toNat 0 := rfl
  rw [hb, hN]
  clear hb hN
  generalize pickN n 5 = p at *
  generalize pickN (wrap64 (n.tdiv 5)) 12 = q at *
  have h12 : q = 0 ∨ q = 1 ∨ q = 2 ∨ q = 3 ∨ q = 4 ∨ q = 5 ∨ q = 6 ∨ q = 7 ∨ q = 8 ∨ q = 9 ∨ q = 10 ∨ q = 11 := by omega
  clear hp
  rcases h12 with rfl | rfl | rfl | rfl | rfl | rfl | rfl | rfl | rfl | rfl | rfl | rfl
  · go_enter Try.func13, Try.ntmps13
    go_wp2_with (first | (go_at_call 19; (with_reducible refine (H1 _).out.mono ?_); rintro e w' ⟨rfl, rfl⟩) | (go_at_call 19; (with_reducible refine (H2 _).out.mono ?_); rintro e w' ⟨rfl, rfl⟩))
    refine bodyPost_ret (v := .agg #[.bool (p == 0), .int .i64 0, .string s]) (by simp [results, Try.results13, go_sem]) rfl ?_
    exact RetB.mk rfl (by go_grown)
  · go_enter Try.func13, Try.ntmps13
    go_wp2_with (first | (go_at_call 19; (with_reducible refine (H1 _).out.mono ?_); rintro e w' ⟨rfl, rfl⟩) | (go_at_call 19; (with_reducible refine (H2 _).out.mono ?_); rintro e w' ⟨rfl, rfl⟩))
    refine bodyPost_ret (v := .agg #[.bool (p == 0), .int .i64 1, .string s]) (by simp [results, Try.results13, go_sem]) rfl ?_
    exact RetB.mk rfl (by go_grown)
  · go_enter Try.func13, Try.ntmps13
    go_wp2_with (first | (go_at_call 19; (with_reducible refine (H1 _).out.mono ?_); rintro e w' ⟨rfl, rfl⟩) | (go_at_call 19; (with_reducible refine (H2 _).out.mono ?_); rintro e w' ⟨rfl, rfl⟩))
    refine bodyPost_ret (v := .agg #[.bool (p == 0), .int .i64 2, .string s]) (by simp [results, Try.results13, go_sem]) rfl ?_
    exact RetB.mk rfl (by go_grown)
  · go_enter Try.func13, Try.ntmps13
    go_wp2_with (first | (go_at_call 19; (with_reducible refine (H1 _).out.mono ?_); rintro e w' ⟨rfl, rfl⟩) | (go_at_call 19; (with_reducible refine (H2 _).out.mono ?_); rintro e w' ⟨rfl, rfl⟩))
    refine bodyPost_ret (v := .agg #[.bool (p == 0), .int .i64 (-1), .string s]) (by simp [results, Try.results13, go_sem]) rfl ?_
    exact RetB.mk rfl (by go_grown)
  · go_enter Try.func13, Try.ntmps13
    go_wp2_with (first | (go_at_call 19; (with_reducible refine (H1 _).out.mono ?_); rintro e w' ⟨rfl, rfl⟩) | (go_at_call 19; (with_reducible refine (H2 _).out.mono ?_); rintro e w' ⟨rfl, rfl⟩))
    refine bodyPost_ret (v := .agg #[.bool (p == 0), .int .i64 (-719162), .string s]) (by simp [results, Try.results13, go_sem]) rfl ?_
    exact RetB.mk rfl (by go_grown)
  · go_enter Try.func13, Try.ntmps13
    go_wp2_with (first | (go_at_call 19; (with_reducible refine (H1 _).out.mono ?_); rintro e w' ⟨rfl, rfl⟩) | (go_at_call 19; (with_reducible refine (H2 _).out.mono ?_); rintro e w' ⟨rfl, rfl⟩))
    refine bodyPost_ret (v := .agg #[.bool (p == 0), .int .i64 (-719163), .string s]) (by simp [results, Try.results13, go_sem]) rfl ?_
    exact RetB.mk rfl (by go_grown)
  · go_enter Try.func13, Try.ntmps13
    go_wp2_with (first | (go_at_call 19; (with_reducible refine (H1 _).out.mono ?_); rintro e w' ⟨rfl, rfl⟩) | (go_at_call 19; (with_reducible refine (H2 _).out.mono ?_); rintro e w' ⟨rfl, rfl⟩))
    refine bodyPost_ret (v := .agg #[.bool (p == 0), .int .i64 2932896, .string s]) (by simp [results, Try.results13, go_sem]) rfl ?_
    exact RetB.mk rfl (by go_grown)
  · go_enter Try.func13, Try.ntmps13
    go_wp2_with (first | (go_at_call 19; (with_reducible refine (H1 _).out.mono ?_); rintro e w' ⟨rfl, rfl⟩) | (go_at_call 19; (with_reducible refine (H2 _).out.mono ?_); rintro e w' ⟨rfl, rfl⟩))
    refine bodyPost_ret (v := .agg #[.bool (p == 0), .int .i64 2932897, .string s]) (by simp [results, Try.results13, go_sem]) rfl ?_
    exact RetB.mk rfl (by go_grown)
  · go_enter Try.func13, Try.ntmps13
    go_wp2_with (first | (go_at_call 19; (with_reducible refine (H1 _).out.mono ?_); rintro e w' ⟨rfl, rfl⟩) | (go_at_call 19; (with_reducible refine (H2 _).out.mono ?_); rintro e w' ⟨rfl, rfl⟩))
    refine bodyPost_ret (v := .agg #[.bool (p == 0), .int .i64 999999999999999999, .string s]) (by simp [results, Try.results13, go_sem]) rfl ?_
    exact RetB.mk rfl (by go_grown)
  · go_enter Try.func13, Try.ntmps13
    go_wp2_with (first | (go_at_call 19; (with_reducible refine (H1 _).out.mono ?_); rintro e w' ⟨rfl, rfl⟩) | (go_at_call 19; (with_reducible refine (H2 _).out.mono ?_); rintro e w' ⟨rfl, rfl⟩))
    refine bodyPost_ret (v := .agg #[.bool (p == 0), .int .i64 1000000000000000000, .string s]) (by simp [results, Try.results13, go_sem]) rfl ?_
    exact RetB.mk rfl (by go_grown)
  · go_enter Try.func13, Try.ntmps13
    go_wp2_with (first | (go_at_call 19; (with_reducible refine (H1 _).out.mono ?_); rintro e w' ⟨rfl, rfl⟩) | (go_at_call 19; (with_reducible refine (H2 _).out.mono ?_); rintro e w' ⟨rfl, rfl⟩))
    refine bodyPost_ret (v := .agg #[.bool (p == 0), .int .i64 (-999999999999999999), .string s]) (by simp [results, Try.results13, go_sem]) rfl ?_
    exact RetB.mk rfl (by go_grown)
  · go_enter Try.func13, Try.ntmps13
    go_wp2_with (first | (go_at_call 19; (with_reducible refine (H1 _).out.mono ?_); rintro e w' ⟨rfl, rfl⟩) | (go_at_call 19; (with_reducible refine (H2 _).out.mono ?_); rintro e w' ⟨rfl, rfl⟩))
    refine bodyPost_ret (v := .agg #[.bool (p == 0), .int .i64 (-1000000000000000000), .string s]) (by simp [results, Try.results13, go_sem]) rfl ?_
    exact RetB.mk rfl (by go_grown)
end Go.Proofs.Ytidlemedkjkmdaa
