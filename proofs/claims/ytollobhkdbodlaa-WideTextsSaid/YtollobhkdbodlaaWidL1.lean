/- The statements of layer 13: what comes in, the first word of each statement. -/
import Derived.Test.YtollobhkdbodlaaWidW3
import Derived.Test.YtollobhkdbodlaaWidW4
import Derived.Test.YtollobhkdbodlaaWidW9
namespace Go.WD
open Go.RowKit Go.VB Go.DT Go.DC
theorem nd_is {m w : Nat} (h1 : 1 ≤ w) (h2 : m < 10 ^ w) (h3 : w = 1 ∨ 10 ^ (w - 1) ≤ m) : nd m = w := by
  unfold nd
  have ha := (len_le m w).1 h2
  rcases h3 with rfl | h3
  · omega
  · have hb : ¬ len m ≤ w - 1 := fun h => by have := (len_le m (w - 1)).2 h; omega
    omega
theorem FT_10 : FT 10 = ⟨#[49, 48]⟩ := by
  rw [ft_pos (by decide)]
  unfold wt
  rw [show (10 : Int).natAbs = 10 from rfl, nd_is (w := 2) (by decide) (by decide) (.inr (by decide))]
  decide
theorem FT_63 : FT 9223372036854775808 = ⟨#[57, 50, 50, 51, 51, 55, 50, 48, 51, 54, 56, 53, 52, 55, 55, 53, 56, 48, 56]⟩ := by
  rw [ft_pos (by decide)]
  unfold wt
  rw [show (9223372036854775808 : Int).natAbs = 9223372036854775808 from rfl, nd_is (w := 19) (by decide) (by decide) (.inr (by decide))]
  decide
end Go.WD
namespace Go.Proofs.Ytollobhkdbodlaa
open Go.RowKit Go.VB Go.WD Go.DT Go.DC Go.ChangeShapes Go.WideShapes Go.ChangeAt
set_option linter.constructorNameAsVariable false
theorem Try.own : ownKnob Try.prog.godebug = none := by kernel_rfl
theorem Try.laidOut : laidOutB Try.prog = true := by kernel_rfl
theorem Try.cellsWd : Try.prog.cellsOf 24 = 2 := by kernel_rfl
theorem Try.cellsWh : Try.prog.cellsOf 2 = 1 := by kernel_rfl
theorem Try.cellsWl : Try.prog.cellsOf 22 = 1 := by kernel_rfl
section
variable {H : Type} {enc : TypeId × Value → H}
theorem open_wide {r : Reach} {b0 : Nat} {w : World} {v : Value} {d : DataW H} {ps : List MemPlace} {held : Bool} (hval : Value.okWide Try.prog w r b0 24 v)
    (hd : DataW.Trod enc Try.prog w 0 (fun _ => true) held 24 v d ps) : ∃ z : Int, v = wd z ∧ W128 z := by
  obtain ⟨cs, rfl, hsz⟩ := okWide_struct Try.underlying24 hval
  rw [Try.cellsWd] at hsz
  obtain ⟨l⟩ := cs
  match l, hsz with
  | [c0, c1], _ =>
  obtain ⟨fuel, hf⟩ := hd
  obtain ⟨xs, n, _, _, _, hlen, hfs⟩ := DataW.trod_struct Try.underlying24 hf
  match xs, hlen with
  | [y0, y1], _ =>
  obtain ⟨p, e0, _, w0⟩ := DataW.trod_int Try.underlying2 (hfs 0 _ rfl)
  obtain ⟨u, e1, _, w1⟩ := DataW.trod_int Try.underlying22 (hfs 1 _ rfl)
  simp [Value.cells, Try.cellsWh, Try.cellsWl] at e0 e1
  subst e0 e1
  obtain ⟨h1, h2⟩ := bounds_i64 w0
  obtain ⟨h3, h4⟩ := bounds_u64 w1
  obtain ⟨k1, k2, k3⟩ := two_in h1 h2 h3 (by omega)
  exact ⟨two p u, by rw [wd_is, k2, k3], k1⟩
end
set_option maxRecDepth 100000 in
set_option maxHeartbeats 1000000 in
theorem awake13_any (w : World) : Calls Try.prog 17 #[] w (RetB (.bool true) w) := by
  have h1 := fun w => Lib.hid (wof_any (-1) w (by unfold I64w; omega))
  have h2 := fun w => Lib.hid (wformat_any 10 w (by unfold W128; omega))
  rw [FT_10] at h2
  rw [show wd (-1) = .agg #[.int .i64 (-1), .int .u64 18446744073709551615] from by rw [wd_is, show hi (-1) = -1 from by unfold hi wrap64; omega, show lo (-1) = 18446744073709551615 from by unfold lo; omega]] at h1
  rw [show wd 10 = .agg #[.int .i64 0, .int .u64 10] from by rw [wd_is, show hi 10 = 0 from by unfold hi wrap64; omega, show lo 10 = 10 from by unfold lo; omega]] at h2
  go_enter Try.func17, Try.ntmps17
  go_wp2_with (first
    | (go_at_call 13; (with_reducible refine (h1 _).out.mono ?_); rintro e w1 ⟨rfl, hb1⟩)
    | (go_at_call 15; (with_reducible refine (h2 _).out.mono ?_); rintro e w2 ⟨rfl, hb2⟩))
  go_ret
  exact RetB.mk rfl (bel_trans hb1 hb2)
end Go.Proofs.Ytollobhkdbodlaa
