/- The walks over package varint: what Put, Size, Get, Zig and Zag return. -/
import Derived.Test.YtidlemedkjkmdaaDoorVarMath
namespace Go.Proofs.YtidlemedkjkmdaaDoor
open Go.RowKit Go.VB Go.VarM

theorem Tryd.infoU8 : (Tryd.prog.info? 5).map (fun i => (i.zero, i.size, i.bytes)) = some (some (.int .u8 0), 1, 1) := by kernel_rfl

set_option maxRecDepth 100000 in
set_option maxHeartbeats 400000 in
theorem vput_any (n : Nat) (w : World) (h : n < 18446744073709551616) :
    Calls Tryd.prog 20 #[.int .u64 (n : Int)] w (RetB (.string (str (putL n))) w) := by
  have hmk : ∀ w, (Instr.makeSlice 59 (.int .i64 0) (.int .i64 10)).run Tryd.prog w = .ok (.slice (some ⟨w.heap.size, 0, none⟩) 0 10) (w.alloc (.cells (Array.replicate 10 (.int .u8 0)) 5)) := fun _ => by kernel_rfl
  have h10 := putL_len10 h
  go_enter Tryd.func20, Tryd.ntmps20
  go_wp2
  go_loopw [0, 3] (fun v enc wr => ∃ (x : Nat) (done : List UInt8), v = .int .u64 x ∧ x < 18446744073709551616 ∧ OwnB 5 wr w.heap.size enc done ∧ done ++ putL x = putL n ∧ Below w.heap.size w wr)
    (fun v _ _ => (intOf v).toNat)
  case atStart => exact ⟨n, [], rfl, h, World.ownsRow_made w _ 10 (Nat.le_refl _) (by decide) (by simp), rfl, (Below.refl _ _).alloc (Nat.le_refl _) _⟩
  case round =>
    obtain ⟨x, done, rfl, hx, hown, hput, hbel⟩ := hrel
    have hle : done.length ≤ 10 := by have := congrArg List.length hput; rw [List.length_append] at this; omega
    have hsz := hbel.size
    clear hmk
    by_cases hlt : x < 128
    · go_wp2_with (at_builtin; refine wpl_app1 rfl _ _ 59 rfl w.heap.size 5 Tryd.underlying59 Tryd.infoU8 _ done rfl (hown.alloc _) wr.heap.size 1 _ rfl (cell_new1 _ _ _) (by omega) (by omega) (by omega) (by simp; omega) ?_)
      intro v' w' hown' hb'
      have hcv := run_string_of_own (P := Tryd.prog) 59 9 5 Tryd.underlying59 Tryd.underlying5 Tryd.underlying9 hown'
      go_wp2
      go_ret
      refine RetB.mk ?_ (hbel.trans (((Below.refl _ _).alloc (by omega) _).trans hb'))
      show Value.string _ = _
      rw [← hput, putL_lt hlt]
    · have e1 := and127 hx
      have e2 := or128 x
      go_wp2_with (at_builtin; refine wpl_app1 rfl _ _ 59 rfl w.heap.size 5 Tryd.underlying59 Tryd.infoU8 _ done rfl (hown.alloc _) wr.heap.size 1 _ rfl (cell_new1 _ _ _) (by omega) (by omega) (by omega) (by simp; omega) ?_)
      intro v' w' hown' hb'
      go_wp2
      go_roundw
      case rel =>
        refine ⟨x / 128, _, by go_num, by omega, hown', ?_, hbel.trans (((Below.refl _ _).alloc (by omega) _).trans hb')⟩
        rw [← hput, putL_ge hlt, List.append_assoc]
        have : (((x : Int) % 128 + 128).toNat) = x % 128 + 128 := by omega
        rw [this]; rfl
      case measure => simp [intOf] <;> omega






end Go.Proofs.YtidlemedkjkmdaaDoor
