/- The walks over the law's column and near. -/
import Derived.Test.YtidlemedkjkmdaaDoorValW4
namespace Go.Proofs.YtidlemedkjkmdaaDoor
open Go.RowKit Go.VB Go.VL
def ctyp (t : Int) : Int := 1 + pickN t 5
def cscale (t k : Int) : Int := if ctyp t = 5 then pickN k 19 else 0
theorem ctyp_bd (t : Int) : 1 ≤ ctyp t ∧ ctyp t ≤ 5 := by have := pickN_bd t (n := 5) (by omega); unfold ctyp; omega
theorem cscale_bd (t k : Int) : 0 ≤ cscale t k ∧ cscale t k ≤ 18 := by
  have := pickN_bd k (n := 19) (by omega)
  unfold cscale; split <;> omega
/-- The name of a column. -/
def xs : ByteArray := ⟨#[120]⟩
def nears : List Int := [0, 1, 2, -1, -719162, -719163, 2932896, 2932897, 999999999999999999, 1000000000000000000, -999999999999999999, -1000000000000000000]
def nearI (n : Int) : Int := pickN (wrap64 (n.tdiv 5)) 12
def nearN (n : Int) : Int := nears.getD (nearI n).toNat 0
def nearB (n : Int) : Bool := pickN n 5 == 0
set_option maxRecDepth 100000 in
set_option maxHeartbeats 1000000 in
theorem col_any (t k : Int) (b : Bool) (w : World) (ht : (Lit.int .i64 t).wf = true) (hk : (Lit.int .i64 k).wf = true) :
    Calls Tryd.prog 8 #[.int .i64 t, .int .i64 k, .bool b] w (RetB (.agg #[.string xs, .int .i64 (ctyp t), .int .i64 (cscale t k), .bool b]) w) := by
  have H1 := fun w => Lib.hid (pick_at t 5 w ht (by omega) (by omega))
  have H2 := fun w => Lib.hid (pick_at k 19 w hk (by omega) (by omega))
  have hp := pickN_bd t (n := 5) (by omega)
  have hx : xs = ⟨#[120]⟩ := rfl
  have HC : cscale t k = if 1 + pickN t 5 = 5 then pickN k 19 else 0 := rfl
  have HT : ctyp t = 1 + pickN t 5 := rfl
  rw [HC, HT, hx]
  clear HC HT hx
  generalize pickN t 5 = p at *
  generalize pickN k 19 = q at *
  have hw : wrap64 (1 + p) = 1 + p := by unfold wrap64; omega
  by_cases h5 : 1 + p = 5
  · obtain rfl : p = 4 := by omega
    rw [if_pos h5]
    clear hw h5
    go_enter Tryd.func8, Tryd.ntmps8
    go_wp2_with (first | (go_at_call 22; (with_reducible refine (H1 _).out.mono ?_); rintro e w' ⟨rfl, rfl⟩) | (go_at_call 22; (with_reducible refine (H2 _).out.mono ?_); rintro e w' ⟨rfl, rfl⟩))
    refine bodyPost_ret (v := (.agg #[.string ⟨#[120]⟩, .int .i64 5, .int .i64 q, .bool b])) (by simp [results, Tryd.results8, go_sem]) rfl ?_
    exact RetB.mk rfl (by go_grown)
  · rw [if_neg h5]
    obtain ⟨m, hm⟩ : ∃ m, 1 + p = m := ⟨_, rfl⟩
    rw [hm] at hw h5
    have hw' : wrap64 (1 + p) = m := by rw [hm]; exact hw
    have e5 := ieq_f h5
    rw [hm]
    clear h5 hw
    go_enter Tryd.func8, Tryd.ntmps8
    go_wp2_with (go_at_call 22; refine (H1 _).out.mono ?_; rintro e w' ⟨rfl, rfl⟩)
    refine bodyPost_ret (v := (.agg #[.string ⟨#[120]⟩, .int .i64 m, .int .i64 0, .bool b])) (by simp [results, Tryd.results8, go_sem, *]) rfl ?_
    exact RetB.mk rfl (by go_grown)
end Go.Proofs.YtidlemedkjkmdaaDoor
