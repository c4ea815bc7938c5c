/- What every law of layer 7 asks first. -/
import Derived.Test.YtfkdenlpailmeaaDoorSchW4
namespace Go.Proofs.YtfkdenlpailmeaaDoor
open Go.RowKit Go.VB Go.VL Go.SC
set_option linter.constructorNameAsVariable false
theorem Tryd.own : ownKnob Tryd.prog.godebug = none := by kernel_rfl
theorem Tryd.laidOut : laidOutB Tryd.prog = true := by kernel_rfl
set_option maxRecDepth 100000 in
set_option maxHeartbeats 1000000 in
theorem awake7_any (w : World) : Calls Tryd.prog 13 #[] w (RetB (.bool true) w) := by
  have hc := fun w => Lib.hid (show Calls Tryd.prog 12 #[.agg #[.slice none 0 0, .int .i64 0]] w (RetB (.int .i64 1) w) from check_any [] _ 0 w (RdC.nil _ _))
  have h1 := fun w => Lib.hid (show Calls Tryd.prog 24 #[.string ⟨#[97, 95, 49]⟩] w (Ret (.bool true) w) from by
    have h := name_any ⟨#[97, 95, 49]⟩ w
    rwa [show nameS ⟨#[97, 95, 49]⟩ = true from by decide +kernel] at h)
  have h2 := fun w => Lib.hid (show Calls Tryd.prog 24 #[.string ⟨#[107, 101, 121]⟩] w (Ret (.bool false) w) from by
    have h := name_any ⟨#[107, 101, 121]⟩ w
    rwa [show nameS ⟨#[107, 101, 121]⟩ = false from by decide +kernel] at h)
  go_enter Tryd.func13, Tryd.ntmps13
  go_wp2_with fail
  refine (hc _).out.mono ?_
  rintro e w1 ⟨rfl, hb⟩
  go_wp2_with fail
  refine (h1 _).out.mono ?_
  rintro e w' ⟨rfl, rfl⟩
  go_wp2_with fail
  refine (h2 _).out.mono ?_
  rintro e w' ⟨rfl, rfl⟩
  go_wp2_with fail
  go_ret
  exact RetB.mk rfl hb
end Go.Proofs.YtfkdenlpailmeaaDoor
