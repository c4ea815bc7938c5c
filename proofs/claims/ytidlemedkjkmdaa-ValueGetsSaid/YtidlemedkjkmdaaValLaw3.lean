/- ValueGets: Get returns the specified value and index, or the specified error, for arbitrary strings. No condition. -/
import Derived.Test.YtidlemedkjkmdaaValP
import Derived.Test.YtidlemedkjkmdaaValW9
namespace Go.Proofs.Ytidlemedkjkmdaa
open Go.RowKit Go.VB Go.VL Go.ChangeShapes Go.WideShapes Go.ChangeAt
open Go.ChangeMaps (open_string)
set_option linter.constructorNameAsVariable false
theorem GV.spell (g : GV) : g.val = .tuple #[.agg #[.bool g.nul, .int .i64 g.n, .string g.s], .int .i64 g.i, .int .i64 (g.e : Int)] := rfl
set_option maxRecDepth 100000 in
set_option maxHeartbeats 8000000 in
theorem gets_walk (s : ByteArray) (at' n : Int) (W : World) (zs : s.size ≤ 140737488351232) (wat : (Lit.int .i64 at').wf = true) (wn : (Lit.int .u8 n).wf = true) :
    Calls Try.prog 7 #[.string s, .int .i64 at', .int .u8 n] W (RetB (.bool true) W) := by
  obtain ⟨n1, n2⟩ := bounds_u8 wn
  have HP := fun w => Lib.hid (pick_at at' ((s.size : Int) + 3) w wat (by omega) (by omega))
  have hp := pickN_bd at' (n := (s.size : Int) + 3) (by omega)
  generalize pickN at' ((s.size : Int) + 3) = p at *
  have hcv := run_string1 (P := Try.prog) 37 9 5 Try.underlying37 Try.underlying5 Try.underlying9 W (n % 3) 1
  have hm : 0 ≤ n % 3 ∧ n % 3 < 3 := by omega
  have hadd : ∀ (b : ByteArray), b.size = 1 → ∀ w, (Op.stringOp .add b s).run Try.prog w = .ok (.string (b ++ s)) w := fun b hb w => run_string_add_sum w _ _ (by omega)
  have h1 := hadd (str [UInt8.ofNat (n % 3).toNat]) (by rw [str_size]; rfl)
  have hT : (str [UInt8.ofNat (n % 3).toNat] ++ s).size = 1 + s.size := by rw [ByteArray.size_append, str_size]; rfl
  generalize str [UInt8.ofNat (n % 3).toNat] ++ s = T at *
  have HA := fun w => Lib.hid (getV_any s (wrap64 (p - 1)) w (by omega))
  have HB := fun w => Lib.hid (rgetV_any s (wrap64 (p - 1)) w (by omega))
  have HC := fun w => Lib.hid (getV_any T 0 w (by omega))
  have HD := fun w => Lib.hid (rgetV_any T 0 w (by omega))
  have HE := fun w => Lib.hid (getV_any s at' w (by omega))
  have HF := fun w => Lib.hid (rgetV_any s at' w (by omega))
  have hAw := fun w => Lib.hid (awakeV_any w)
  rw [GV.spell] at HA HB HC HD HE HF
  generalize getV s (wrap64 (p - 1)) = g1 at *
  generalize getV T 0 = g2 at *
  generalize getV s at' = g3 at *
  obtain ⟨n1, z1, s1, i1, e1⟩ := g1
  obtain ⟨n2, z2, s2, i2, e2⟩ := g2
  obtain ⟨n3, z3, s3, i3, e3⟩ := g3
  generalize str [UInt8.ofNat (n % 3).toNat] = b1 at *
  have hV : ∀ w, Below (W.alloc (.cells #[.int .u8 (n % 3)] 5)).heap.size (W.alloc (.cells #[.int .u8 (n % 3)] 5)) w → Hid (Below W.heap.size W w) := fun w hb => Lib.hid (bel_trans ((Below.refl _ _).alloc (Nat.le_refl _) _) hb)
  clear hadd hT wat wn hp
  go_enter Try.func7, Try.ntmps7
  go_wp2_with fail
  refine (HP _).out.mono ?_
  rintro e w' ⟨rfl, rfl⟩
  go_wp2_with fail
  generalize W.alloc (.cells #[.int .u8 (n % 3)] 5) = wn at *
  clear hcv h1 HP
  refine (HA _).out.mono ?_
  rintro e w' ⟨rfl, hb1⟩
  go_wp2_with fail
  have hb2 := (Below.refl w'.heap.size w').alloc (Nat.le_refl _) (.cells #[.bool n1, .int .i64 z1, .string s1] 25)
  have V := Var3.new w' (.bool n1) (.int .i64 z1) (.string s1) 25
  have hV2 := fun (w : World) (hb : Below (w'.alloc (.cells #[.bool n1, .int .i64 z1, .string s1] 25)).heap.size (w'.alloc (.cells #[.bool n1, .int .i64 z1, .string s1] 25)) w) => Lib.hid (And.intro (hV w (bel_trans (bel_trans hb1 hb2) hb)).out (V.step hb))
  clear hV V hb1 hb2
  generalize w'.heap.size = d0 at *
  generalize w'.alloc (.cells #[.bool n1, .int .i64 z1, .string s1] 25) = wn at *
  have hV := hV2
  clear hV2
  refine (HB _).out.mono ?_
  rintro e w' ⟨rfl, hb1⟩
  go_wp2_with fail
  have hb2 := (Below.refl w'.heap.size w').alloc (Nat.le_refl _) (.cells #[.bool n1, .int .i64 z1, .string s1] 25)
  have V := Var3.new w' (.bool n1) (.int .i64 z1) (.string s1) 25
  have hV2 := fun (w : World) (hb : Below (w'.alloc (.cells #[.bool n1, .int .i64 z1, .string s1] 25)).heap.size (w'.alloc (.cells #[.bool n1, .int .i64 z1, .string s1] 25)) w) => Lib.hid (And.intro (hV w (bel_trans (bel_trans hb1 hb2) hb)).out (V.step hb))
  clear hV V hb1 hb2
  generalize w'.heap.size = d1 at *
  generalize w'.alloc (.cells #[.bool n1, .int .i64 z1, .string s1] 25) = wn at *
  have hV := hV2
  clear hV2
  refine (HC _).out.mono ?_
  rintro e w' ⟨rfl, hb1⟩
  go_wp2_with fail
  have hb2 := (Below.refl w'.heap.size w').alloc (Nat.le_refl _) (.cells #[.bool n2, .int .i64 z2, .string s2] 25)
  have V := Var3.new w' (.bool n2) (.int .i64 z2) (.string s2) 25
  have hV2 := fun (w : World) (hb : Below (w'.alloc (.cells #[.bool n2, .int .i64 z2, .string s2] 25)).heap.size (w'.alloc (.cells #[.bool n2, .int .i64 z2, .string s2] 25)) w) => Lib.hid (And.intro (hV w (bel_trans (bel_trans hb1 hb2) hb)).out (V.step hb))
  clear hV V hb1 hb2
  generalize w'.heap.size = d2 at *
  generalize w'.alloc (.cells #[.bool n2, .int .i64 z2, .string s2] 25) = wn at *
  have hV := hV2
  clear hV2
  refine (HD _).out.mono ?_
  rintro e w' ⟨rfl, hb1⟩
  go_wp2_with fail
  have hb2 := (Below.refl w'.heap.size w').alloc (Nat.le_refl _) (.cells #[.bool n2, .int .i64 z2, .string s2] 25)
  have V := Var3.new w' (.bool n2) (.int .i64 z2) (.string s2) 25
  have hV2 := fun (w : World) (hb : Below (w'.alloc (.cells #[.bool n2, .int .i64 z2, .string s2] 25)).heap.size (w'.alloc (.cells #[.bool n2, .int .i64 z2, .string s2] 25)) w) => Lib.hid (And.intro (hV w (bel_trans (bel_trans hb1 hb2) hb)).out (V.step hb))
  clear hV V hb1 hb2
  generalize w'.heap.size = d3 at *
  generalize w'.alloc (.cells #[.bool n2, .int .i64 z2, .string s2] 25) = wn at *
  have hV := hV2
  clear hV2
  refine (HE _).out.mono ?_
  rintro e w' ⟨rfl, hb1⟩
  go_wp2_with fail
  have hb2 := (Below.refl w'.heap.size w').alloc (Nat.le_refl _) (.cells #[.bool n3, .int .i64 z3, .string s3] 25)
  have V := Var3.new w' (.bool n3) (.int .i64 z3) (.string s3) 25
  have hV2 := fun (w : World) (hb : Below (w'.alloc (.cells #[.bool n3, .int .i64 z3, .string s3] 25)).heap.size (w'.alloc (.cells #[.bool n3, .int .i64 z3, .string s3] 25)) w) => Lib.hid (And.intro (hV w (bel_trans (bel_trans hb1 hb2) hb)).out (V.step hb))
  clear hV V hb1 hb2
  generalize w'.heap.size = d4 at *
  generalize w'.alloc (.cells #[.bool n3, .int .i64 z3, .string s3] 25) = wn at *
  have hV := hV2
  clear hV2
  refine (HF _).out.mono ?_
  rintro e w' ⟨rfl, hb1⟩
  go_wp2_with fail
  have hb2 := (Below.refl w'.heap.size w').alloc (Nat.le_refl _) (.cells #[.bool n3, .int .i64 z3, .string s3] 25)
  have V := Var3.new w' (.bool n3) (.int .i64 z3) (.string s3) 25
  have hV2 := fun (w : World) (hb : Below (w'.alloc (.cells #[.bool n3, .int .i64 z3, .string s3] 25)).heap.size (w'.alloc (.cells #[.bool n3, .int .i64 z3, .string s3] 25)) w) => Lib.hid (And.intro (hV w (bel_trans (bel_trans hb1 hb2) hb)).out (V.step hb))
  clear hV V hb1 hb2
  generalize w'.heap.size = d5 at *
  generalize w'.alloc (.cells #[.bool n3, .int .i64 z3, .string s3] 25) = wn at *
  have hV := hV2
  clear hV2
  refine (hAw _).out.mono ?_
  rintro e w' ⟨rfl, hb1⟩
  obtain ⟨⟨⟨⟨⟨⟨hB, k0, k1, k2, _, _, _⟩, m0, m1, m2, _, _, _⟩, p0, p1, p2, _, _, _⟩, q0, q1, q2, _, _, _⟩, _⟩, _⟩ := (hV _ hb1).out
  clear hV hb1 HA HB HC HD HE HF hAw
  go_wp2
  go_ret
  exact RetB.mk rfl hB
set_option maxRecDepth 100000 in
set_option maxHeartbeats 4000000 in
theorem valueGets_lifted (os : Os) (started : os.Started) (H : Type) (enc : TypeId × Value → H) :
    ReturnsInHanded {} Try.checked os 7 .any (Rows.valueGetsSpec.pre6 enc Try.prog Try.f7 Rows.valueGetsRow.domain false) (Rows.valueGetsSpec.post enc Try.prog Try.f7 false true false false) := by
  refine law_lifted (C := Try.checked) (tb := 4) started Try.own Try.laidOut (by kernel_rfl) Try.func7
    (ChangeSpec.witness6 (enc := enc) (C := Try.checked) false ⟨#[], #[.string ⟨#[]⟩, .int .i64 0, .int .u8 0], []⟩ 8 (by kernel_rfl) (by kernel_rfl) (by kernel_rfl) (by kernel_rfl))
    rfl rfl Try.underlying4 (by kernel_rfl) (fun ds h => ?_) (fun W base args ds p hval0 hA0 hsz0 hlt => ?_)
  · have h' : ds.length = Try.f7.params.toList.length := h
    rw [Try.params7] at h'
    match ds, h' with
    | [_, _, _], _ => rfl
  · have hval : ∀ (j : Nat) t v, Try.f7.params[j]? = some t → args[j]? = some v → Value.okWide Try.prog W .any base t v := hval0
    have hA : DataW.TrodAll enc Try.prog W 0 (fun _ => true) true Try.f7.params.toList args.toList ds p := hA0
    have hsz : (DataW.weightsEach Try.prog Try.f7.params.toList ds).all (· ≤ reachBytes) = true := hsz0
    rw [Try.params7] at hA hval hsz
    clear hA0 hval0 hsz0
    obtain ⟨v0, vs0, d0, ds0, p0, q0, hargs, rfl, rfl, h0, r0⟩ := trodAll_cons hA
    obtain ⟨v1, vs1, d1, ds1, p1, q1, rfl, rfl, rfl, h1, r1⟩ := trodAll_cons r0
    obtain ⟨v2, vs2, d2, ds2, p2, q2, rfl, rfl, rfl, h2, r2⟩ := trodAll_cons r1
    obtain ⟨rfl, rfl, rfl⟩ := trodAll_nil r2
    obtain rfl : args = #[v0, v1, v2] := by cases args; simp_all
    obtain ⟨s, rfl, rfl, rfl, _⟩ := open_string Try.underlying9 (hval 0 9 v0 rfl rfl) h0
    have zs : s.size ≤ 140737488351232 := by have h := sized_string hsz (j := 0) (t := 9) rfl rfl; rw [size_list] at h; exact h
    obtain ⟨at', rfl, rfl, rfl, wat'⟩ := open_int Try.underlying3 (hval 1 3 v1 rfl rfl) h1
    obtain ⟨n, rfl, rfl, rfl, wn⟩ := open_int Try.underlying5 (hval 2 5 v2 rfl rfl) h2
    change Calls Try.prog 7 #[.string s, .int .i64 at', .int .u8 n] W (RetB (.bool true) W)
    exact gets_walk s at' n W zs wat' wn
theorem valueGets_holds : Rows.ValueGetsSaid :=
  OpenClaim.holds_of_wide 7 Try.f7 rfl rfl rfl rfl rfl rfl rfl ⟨rfl, rfl, rfl, rfl, rfl⟩ rfl rfl rfl rfl rfl (by kernel_rfl) Try.func7 (by kernel_rfl)
    (of_decide_eq_true (by kernel_rfl)) (by unfold Func.isWrapper; first | (rw [if_pos (by decide +kernel)]; kernel_rfl) | (rw [if_neg (by decide +kernel)]; exact ⟨rfl, rfl⟩))
    (fun os started H enc _ => valueGets_lifted os started H enc)
end Go.Proofs.Ytidlemedkjkmdaa
