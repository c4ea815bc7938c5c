/- The Ids: package schema's and the reference's. -/
import Derived.Test.YtnmlajmaffiigaaGreatDoorGi
import Derived.Test.YtnmlajmaffiigaaGreatDoorGj
namespace Go.SC
open Go.RowKit Go.VB Go.VL Go.CR
/-- What Id returns. -/
def IDN (cs : List Col) (key : Int) : Nat := if chkS cs key = 0 then sumL tab (fmtL cs key) else 0
theorem IDN_bad {cs : List Col} {key : Int} (h : ¬ chkS cs key = 0) : IDN cs key = 0 := if_neg h
theorem IDN_ok {cs : List Col} {key : Int} (h : chkS cs key = 0) : IDN cs key = sumL tab (fmtL cs key) := if_pos h
theorem fmtL_len {cs : List Col} {key : Int} (h : chkS cs key = 0) : 1 ≤ (fmtL cs key).length ∧ (fmtL cs key).length ≤ 600 := by
  obtain ⟨_, h12, _, k0, k1⟩ := chkS_ok h
  have h1 := txC_len h cs.length (Nat.le_refl _)
  rw [List.take_length] at h1
  have h2 := (cv_of h (i := key.toNat) (by omega)).nm_size.2
  have h3 : (cs.getD key.toNat col0).nm.data.toList.length = (cs.getD key.toNat col0).nm.size := size_list _
  unfold fmtL keyL
  simp only [List.length_append, List.length_cons, List.length_nil]
  omega
end Go.SC
namespace Go.Proofs.YtnmlajmaffiigaaGreatDoor
open Go.RowKit Go.VB Go.VL Go.SC Go.CR
set_option linter.constructorNameAsVariable false
set_option maxRecDepth 100000 in
set_option maxHeartbeats 2000000 in
theorem id_any (cs : List Col) (v : Value) (key : Int) (W : World) (hr : RdC W W.heap.size v cs) :
    Calls Tryz.prog 35 #[.agg #[v, .int .i64 key]] W (RetB (.tuple #[.int .u32 (IDN cs key : Nat), .int .i64 (chkS cs key : Nat)]) W) := by
  have hV2 := Var2.new W v (.int .i64 key) 24
  have hB0 : Below W.heap.size W (W.alloc (.cells #[v, .int .i64 key] 24)) := (Below.refl _ _).alloc (Nat.le_refl _) _
  have hF := Lib.hid (format_any cs v key _ (hr.below hB0 |>.more hB0.size))
  obtain ⟨A, c, rfl, _⟩ := hr
  obtain ⟨l0, l1, _, _⟩ := hV2
  by_cases he : chkS cs key = 0
  · have hI := Lib.hid (IDN_ok he)
    rw [FT_ok he] at hF
    have hz : (str (fmtL cs key)).size ≤ 140737488351232 := by have := (fmtL_len he).2; rw [str_size]; omega
    have hd : ((chkS cs key : Int) != 0) = false := ine_f (by omega)
    have hS := fun vt w (h : RdN .u32 w w.heap.size vt tab) => Lib.hid (csum_any vt tab (str (fmtL cs key)) w h tab_lt hz)
    have hsum : sumL tab (str (fmtL cs key)).data.toList = sumL tab (fmtL cs key) := rfl
    rw [hsum] at hS
    have hE0 := Lib.hid he
    rw [he] at hF
    clear he hz hsum hd
    generalize sumL tab (fmtL cs key) = M at *
    generalize str (fmtL cs key) = S at *
    go_enter Tryz.func35, Tryz.ntmps35
    go_wp2_with fail
    refine hF.out.mono ?_
    rintro e w1 ⟨rfl, hb1⟩
    go_wp2_with fail
    refine (ctable_any _).mono ?_
    rintro e w2 ⟨vt, rfl, hown, hB2⟩
    have hSc := Lib.hid (hS vt w2 hown.read).out
    obtain ⟨At, ct, rfl, _⟩ := hown.read
    go_wp2_with fail
    refine hSc.out.mono ?_
    rintro e w' ⟨rfl, rfl⟩
    go_wp2_with fail
    go_ret2
    exact RetB.mk (by rw [hI.out, hE0.out]; rfl) (bel_trans (bel_trans hB0 hb1) hB2)
  · have hI := Lib.hid (IDN_bad he)
    rw [FT_bad he] at hF
    have hd : ((chkS cs key : Int) != 0) = true := ine_t (by omega)
    clear he
    go_enter Tryz.func35, Tryz.ntmps35
    go_wp2_with fail
    refine hF.out.mono ?_
    rintro e w1 ⟨rfl, hb1⟩
    go_wp2_with fail
    go_ret2
    exact RetB.mk (by rw [hI.out]; rfl) (bel_trans hB0 hb1)
end Go.Proofs.YtnmlajmaffiigaaGreatDoor
