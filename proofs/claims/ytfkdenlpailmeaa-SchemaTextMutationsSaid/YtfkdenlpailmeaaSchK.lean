/- The walks over keep's Same at columns and SameSchema, over the law's parses. -/
import Derived.Test.YtfkdenlpailmeaaSchR4
import Derived.Test.YtfkdenlpailmeaaSchA
import Derived.BigQuiet
namespace Go.Proofs.Ytfkdenlpailmeaa
open Go.RowKit Go.VB Go.VL Go.SC
set_option linter.constructorNameAsVariable false
set_option maxRecDepth 100000 in
set_option maxHeartbeats 2000000 in
theorem sameC_eq (x y : Value) (cs : List Col) (B : Nat) (w : World) (hx : RdC w B x cs) (hy : RdC w B y cs) (hB : B ≤ w.heap.size) :
    Calls Try.prog 30 #[x, y] w (RetB (.bool true) w) := by
  obtain ⟨A, c, rfl, hc1, hc2, hx'⟩ := id hx
  obtain ⟨A', c', rfl, hd1, hd2, hy'⟩ := id hy
  clear hx' hy'
  unfold maxLen at hc2 hd2
  have HX := Lib.hid hx; have HY := Lib.hid hy; clear hx hy
  go_enter Try.func30, Try.ntmps30
  go_wp2
  go_loopw [4, 5, 13] (fun r _ i wr => ∃ j : Nat, r = .bool false ∧ i = .int .i64 j ∧ j ≤ cs.length ∧ Below w.heap.size w wr) (fun _ _ i _ => cs.length - (intOf i).toNat)
  case atStart => exact ⟨0, rfl, rfl, Nat.zero_le _, Below.refl _ _⟩
  case round =>
    obtain ⟨j, rfl, rfl, hj, hbel⟩ := hrel
    by_cases hlt : j < cs.length
    · obtain ⟨_, _, hv1, _, _, hcx⟩ := HX.out.below (hbel.mono hB)
      cases hv1
      obtain ⟨ad, rfl, _, ⟨x0, x1, x2, x3⟩⟩ := hcx j hlt
      obtain ⟨_, _, hv2, _, _, hcy⟩ := HY.out.below (hbel.mono hB)
      cases hv2
      obtain ⟨ad', rfl, _, ⟨y0, y1, y2, y3⟩⟩ := hcy j hlt
      clear hcx hcy
      generalize cs.getD j col0 = V at *
      obtain ⟨nm, ty, sc, nu⟩ := V
      simp only at x0 x1 x2 x3 y0 y1 y2 y3
      go_wp2_with fail
      go_quiet (fail)
      go_wp2_with fail
      go_roundw
      case rel => exact ⟨j + 1, rfl, by go_num, hlt, Go.below_drewN hbel nq⟩
      case measure => simp [intOf] <;> omega
    · go_wp2
      go_ret
      exact RetB.mk rfl hbel
set_option maxRecDepth 100000 in
set_option maxHeartbeats 2000000 in
theorem sameS_eq (x y : Value) (key : Int) (cs : List Col) (w : World) (hx : RdC w w.heap.size x cs) (hy : RdC w w.heap.size y cs) :
    Calls Try.prog 19 #[.agg #[x, .int .i64 key], .agg #[y, .int .i64 key]] w (RetB (.bool true) w) := by
  have hb : Below w.heap.size w ((w.alloc (.cells #[x, .int .i64 key] 34)).alloc (.cells #[y, .int .i64 key] 34)) := ((Below.refl _ _).alloc (Nat.le_refl _) _).alloc (by simp) _
  have HS := Lib.hid (sameC_eq x y cs w.heap.size _ (hx.below hb) (hy.below hb) hb.size)
  have e : (key == key) = true := beq_self_eq_true _
  obtain ⟨A, c, rfl, _⟩ := hx
  obtain ⟨A', c', rfl, _⟩ := hy
  go_enter Try.func19, Try.ntmps19
  go_wp2_with fail
  refine HS.out.mono ?_
  rintro e w1 ⟨rfl, hb1⟩
  go_wp2_with fail
  go_ret
  exact RetB.mk rfl (hb.trans (hb1.mono hb.size))
set_option maxRecDepth 100000 in
set_option maxHeartbeats 2000000 in
theorem parses_any (l : List UInt8) (W : World) : Calls Try.prog 9 #[.string (str l)] W (RetB (.bool true) W) := by
  have HP := fun w => Lib.hid (parse_any l w)
  have HR := fun w => Lib.hid (rparse_any l w)
  have HS := fun x y key cs w hx hy => Lib.hid (sameS_eq x y key cs w hx hy)
  generalize prsS l = R at *
  generalize str l = S at *
  go_enter Try.func9, Try.ntmps9
  go_wp2_with fail
  refine (HP _).out.mono ?_
  rintro e w1 ⟨hb1, v1, rfl, ho1⟩
  obtain ⟨A1, c1, rfl, _⟩ := id ho1.read
  have hV := Var2.new w1 (.slice A1 R.cs.length c1) (.int .i64 R.key) 34
  have hal : Below w1.heap.size w1 (w1.alloc (.cells #[.slice A1 R.cs.length c1, .int .i64 R.key] 34)) := (Below.refl _ _).alloc (Nat.le_refl _) _
  have hB := bel_trans hb1 hal
  have hR1 := ho1.read.step hal
  have hlt1 : Hid (w1.heap.size < (w1.alloc (.cells #[.slice A1 R.cs.length c1, .int .i64 R.key] 34)).heap.size) := Lib.hid (by simp)
  clear ho1 hb1 HP hal
  go_wp2_with fail
  generalize hg : w1.heap.size = g at *
  generalize w1.alloc (.cells #[.slice A1 R.cs.length c1, .int .i64 R.key] 34) = w2 at *
  clear hg
  refine (HR _).out.mono ?_
  rintro e w3 ⟨hb3, v3, rfl, ho3⟩
  obtain ⟨A3, c3, rfl, _⟩ := id ho3.read
  have hal : Below w3.heap.size w3 (w3.alloc (.cells #[.slice A3 R.cs.length c3, .int .i64 R.key] 34)) := (Below.refl _ _).alloc (Nat.le_refl _) _
  have hB3 := bel_trans hB (bel_trans hb3 hal)
  have hV3 := hV.step hb3
  have hR3 := (hR1.step hb3).step hal
  have hR4 := ho3.read.step hal
  have hlt3 : g < w3.heap.size := hV3.lt
  have HSS := Lib.hid (HS _ _ R.key R.cs _ hR3 hR4).out
  clear HR HS hB hV hR1 hb3 ho3 hal hR3 hR4
  obtain ⟨l0, l1, _, _⟩ := hV3
  have e1 : ((R.line : Int) == (R.line : Int)) = true := beq_self_eq_true _
  have e2 : ((R.e : Int) == (R.e : Int)) = true := beq_self_eq_true _
  generalize R.cs.length = n at *
  generalize R.key = key at *
  generalize (R.line : Int) = ln at *
  generalize (R.e : Int) = er at *
  go_wp2_with fail
  refine HSS.out.mono ?_
  rintro e w5 ⟨rfl, hb5⟩
  go_wp2_with fail
  go_ret
  exact RetB.mk rfl (bel_trans hB3 hb5)
end Go.Proofs.Ytfkdenlpailmeaa
