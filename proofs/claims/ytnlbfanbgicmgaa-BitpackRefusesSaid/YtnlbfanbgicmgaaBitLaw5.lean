/- The statement of layer 2 on what is refused, out of the contracts. -/
import Derived.Test.YtnlbfanbgicmgaaBitLaw2
namespace Go.Proofs.Ytnlbfanbgicmgaa
open Go.RowKit Go.VB Go.VarM Go.BP Go.ChangeShapes Go.WideShapes Go.ChangeAt
open Go.ChangeMaps (open_string)
set_option linter.constructorNameAsVariable false
set_option maxRecDepth 100000 in
set_option maxHeartbeats 2000000 in
theorem refuses_walk (v0 : Value) (zl : List Int) (k at' more : Int) (W : World) (rl : RdI .i64 W W.heap.size v0 zl) (wk : (Lit.int .i64 k).wf = true) (wa : (Lit.int .i64 at').wf = true) (_wm : (Lit.int .u8 more).wf = true) :
    Calls Try.prog 9 #[v0, .int .i64 k, .int .i64 at', .int .u8 more] W (RetB (.bool true) W) := by
  have ha := pickN_bd k (n := 64) (by decide)
  have HPK := fun w => Lib.hid (pick_at k 64 w wk (by decide) (by decide))
  generalize pickN k 64 = a at *
  obtain ⟨a1, a2⟩ := ha
  obtain ⟨q, rfl⟩ := Int.eq_ofNat_of_zero_le a1
  have hq : q ≤ 63 := by omega
  have hq64 : q ≤ 64 := by omega
  have HR := Lib.hid rl; clear rl wk
  obtain ⟨z, hz⟩ : ∃ z, z = str [UInt8.ofNat more.toNat] := ⟨_, rfl⟩
  have hz1 : z.size = 1 := by rw [hz, str_size]; rfl
  have hcs : ∀ (w : World) (m : Nat), (convert 22 9 (.slice (some ⟨w.heap.size, 0, none⟩) 1 m)).run Try.prog (w.alloc (.cells #[.int .u8 more] 5)) = .ok (.string z) (w.alloc (.cells #[.int .u8 more] 5)) :=
    fun w m => by rw [hz]; exact run_string1 (P := Try.prog) 22 9 5 Try.underlying22 Try.underlying5 Try.underlying9 w more m
  go_enter Try.func9, Try.ntmps9
  go_wp2_with fail
  refine (HPK _).out.mono ?_; rintro e w' ⟨rfl, rfl⟩
  clear HPK
  go_wp2_with fail
  refine (numbers_any _ zl q _ _ HR.out (Nat.le_refl _) hq64).mono ?_
  rintro e w1 ⟨v, x, rfl, hown, h100, hlt, hB⟩
  have hW1 := hB.size
  have hl64 : ∀ y ∈ x, y < 2 ^ 64 := fun y hy => Nat.lt_of_lt_of_le (hlt y hy) (Nat.pow_le_pow_right (by decide) hq64)
  have HR1 := Lib.hid (packR_ok hq64 (show x.length ≤ 4096 by omega) hlt)
  have hrd := hown.read
  have hrd2 := hrd
  obtain ⟨A, c, rfl, hc1, hc2, _⟩ := hrd2
  clear HR
  go_wp2_with fail
  refine (rpack_eq _ x q _ _ hrd (Nat.le_refl _) hl64 HR1.out).mono ?_
  rintro e w2 ⟨rfl, hb⟩
  replace hown := hown.below hb
  replace hB := bel_trans hB hb
  clear hrd hb
  have hsz : (str (packed x q)).size = (x.length * q + 7) / 8 := by rw [str_size, packed_len]
  have hnd := need_le (n := x.length) (w := q) (by omega) hq64
  generalize hS : str (packed x q) = S at *
  obtain ⟨T, hT⟩ : ∃ T, T = S ++ z := ⟨_, rfl⟩
  have hadd : ∀ (w : World), (Op.stringOp .add S z).run Try.prog w = .ok (.string T) w := fun w => by
    rw [run_string_add_sum w _ z (by rw [hz1, hsz]; omega), hT]
  have hTs : T.size = S.size + 1 := by rw [hT]; simp [hz1]
  have HU := Lib.hid (unpackR_long (s := T) (n := x.length) (w := q) (by omega) hq64 (by rw [hTs, hsz]; omega))
  have HSZ := Lib.hid hsz; have HS := Lib.hid hS; have HZ := Lib.hid hz; have HT := Lib.hid hT
  have hSb : S.size ≤ 32768 := by rw [hsz]; exact hnd
  clear hsz hS hz hz1 hT hTs
  have hW2 := hB.size
  go_wp2_with fail
  refine (bunpack_eq _ _ _ _ HU.out).mono ?_
  rintro e w3 ⟨x3, rfl, _, hb⟩
  replace hown := (hown.alloc (.cells #[.int .u8 more] 5)).below hb
  replace hB := bel_trans (hB.alloc hW2 (.cells #[.int .u8 more] 5)) hb
  clear hb hcs hadd hW2
  by_cases h0 : x.length = 0
  · have hd : ((x.length : Int) == 0) = true := beq_iff_eq.2 (by omega)
    have H0 := Lib.hid h0; clear h0
    go_wp2_with fail
    refine (awake2_any _).mono ?_
    rintro e w4 ⟨rfl, hb⟩
    replace hB := bel_trans hB hb
    clear hb
    go_wp2
    go_ret
    exact RetB.mk rfl hB
  · have hd : ((x.length : Int) == 0) = false := beq_eq_false_iff_ne.2 (by omega)
    have hpos : 0 < x.length := by omega
    rcases hown.forms with ⟨_, hnil⟩ | ⟨g, c', hv, hrow⟩
    · exact absurd (by rw [hnil]; rfl) h0
    cases hv
    have hp := pickN_bd at' (n := x.length) (by omega)
    have HPP := fun w => Lib.hid (pick_at at' x.length w wa (by omega) (by omega))
    generalize pickN at' x.length = p at *
    obtain ⟨p1, p2⟩ := hp
    obtain ⟨p, rfl⟩ := Int.eq_ofNat_of_zero_le p1
    have hpl : p < x.length := by omega
    have hX2 : (2 : Nat) ^ q ≤ 2 ^ 63 := Nat.pow_le_pow_right (by decide) hq
    rw [show (2 : Nat) ^ 63 = 9223372036854775808 from by decide] at hX2
    obtain ⟨X, hX⟩ : ∃ X, X = 2 ^ q := ⟨_, rfl⟩
    have hXw : IntKind.u64.wrap (2 ^ q) = (X : Int) := by
      have e0 : ((2 : Int) ^ q) = ((2 ^ q : Nat) : Int) := by push_cast; rfl
      rw [e0, hX, IntWalk.u64_in _ ⟨by omega, by omega⟩]
    have hc := hrow.cell p hpl
    have hf := hrow.frozen p
    have hst := hrow.store p X
    have hgW := hrow.lt.1
    have hX64 : X < 2 ^ 64 := by rw [show (2 : Nat) ^ 64 = 18446744073709551616 from by decide]; omega
    have hmem : X ∈ x.set p X := List.mem_set hpl X
    have hl64' : ∀ y ∈ x.set p X, y < 2 ^ 64 := fun y hy => by
      rcases List.mem_or_eq_of_mem_set hy with h | h
      · exact hl64 y h
      · rw [h]; exact hX64
    have HR2 := Lib.hid (packR_over hq64 (show (x.set p X).length ≤ 4096 by rw [List.length_set]; omega) hmem (by rw [hX]; omega))
    have hrd := (hst.own_at (n := x.length) (by rw [List.length_set]) rfl).read
    have hBst := hB.setCell (p := ⟨g, p, none⟩) hgW (.int .u64 (X : Int))
    have HX := Lib.hid hX
    clear hX hX2 hown hrow hst hmem hl64 hB
    go_wp2_with fail
    refine (HPP _).out.mono ?_; rintro e w' ⟨rfl, rfl⟩
    clear HPP
    go_wp2_with fail
    refine (bpack_eq _ _ _ _ _ hrd (Nat.le_refl _) hl64' HR2.out).mono ?_
    rintro e w4 ⟨rfl, hb⟩
    replace hBst := bel_trans hBst hb
    clear hb hrd hc hf hXw hl64'
    by_cases hS0 : 0 < S.size
    · have HU2 := Lib.hid (unpackR_short (s := S.extract 0 (S.size - 1)) (n := x.length) (w := q) (by omega) hq64 (by rw [← HSZ.out]; simp; omega))
      go_wp2_with fail
      refine (bunpack_eq _ _ _ _ HU2.out).mono ?_
      rintro e w5 ⟨x5, rfl, _, hb⟩
      replace hBst := bel_trans hBst hb
      clear hb
      go_wp2_with fail
      refine (awake2_any _).mono ?_
      rintro e w6 ⟨rfl, hb⟩
      replace hBst := bel_trans hBst hb
      clear hb
      go_wp2
      go_ret
      exact RetB.mk rfl hBst
    · go_wp2_with fail
      refine (awake2_any _).mono ?_
      rintro e w6 ⟨rfl, hb⟩
      replace hBst := bel_trans hBst hb
      clear hb
      go_wp2
      go_ret
      exact RetB.mk rfl hBst
set_option maxRecDepth 100000 in
set_option maxHeartbeats 4000000 in
theorem bitpackRefuses_lifted (os : Os) (started : os.Started) (H : Type) (enc : TypeId × Value → H) :
    ReturnsInHanded {} Try.checked os 9 .any (Rows.bitpackRefusesSpec.pre6 enc Try.prog Try.f9 Rows.bitpackRefusesRow.domain false) (Rows.bitpackRefusesSpec.post enc Try.prog Try.f9 false true false false) := by
  refine law_lifted (C := Try.checked) (tb := 4) started Try.own Try.laidOut (by kernel_rfl) Try.func9
    (ChangeSpec.witness6 (enc := enc) (C := Try.checked) false ⟨#[], #[.slice none 0 0, .int .i64 0, .int .i64 0, .int .u8 0], []⟩ 8 (by kernel_rfl) (by kernel_rfl) (by kernel_rfl) (by kernel_rfl))
    rfl rfl Try.underlying4 (by kernel_rfl) (fun ds h => ?_) (fun W base args ds p hval0 hA0 hsz0 hlt => ?_)
  · have h' : ds.length = Try.f9.params.toList.length := h
    rw [Try.params9] at h'
    match ds, h' with
    | [_, _, _, _], _ => rfl
  · have hval : ∀ (j : Nat) t v, Try.f9.params[j]? = some t → args[j]? = some v → Value.okWide Try.prog W .any base t v := hval0
    have hA : DataW.TrodAll enc Try.prog W 0 (fun _ => true) true Try.f9.params.toList args.toList ds p := hA0
    have hsz : (DataW.weightsEach Try.prog Try.f9.params.toList ds).all (· ≤ reachBytes) = true := hsz0
    rw [Try.params9] at hA hval hsz
    clear hA0 hval0 hsz0
    obtain ⟨v0, vs0, d0, ds0, p0, q0, hargs, rfl, rfl, h0, r0⟩ := trodAll_cons hA
    obtain ⟨v1, vs1, d1, ds1, p1, q1, rfl, rfl, rfl, h1, r1⟩ := trodAll_cons r0
    obtain ⟨v2, vs2, d2, ds2, p2, q2, rfl, rfl, rfl, h2, r2⟩ := trodAll_cons r1
    obtain ⟨v3, vs3, d3, ds3, p3, q3, rfl, rfl, rfl, h3, r3⟩ := trodAll_cons r2
    obtain ⟨rfl, rfl, rfl⟩ := trodAll_nil r3
    obtain rfl : args = #[v0, v1, v2, v3] := by cases args; simp_all
    obtain ⟨zl, rl, wl, bl⟩ := open_rdI Try.underlying42 Try.underlying3 (by kernel_rfl) (hval 0 42 v0 rfl rfl) h0 hsz (j := 0) rfl rfl
    obtain ⟨k, rfl, rfl, rfl, wk⟩ := open_int Try.underlying3 (hval 1 3 v1 rfl rfl) h1
    obtain ⟨a, rfl, rfl, rfl, wa⟩ := open_int Try.underlying3 (hval 2 3 v2 rfl rfl) h2
    obtain ⟨m, rfl, rfl, rfl, wm⟩ := open_int Try.underlying5 (hval 3 5 v3 rfl rfl) h3
    change Calls Try.prog 9 #[v0, .int .i64 k, .int .i64 a, .int .u8 m] W (RetB (.bool true) W)
    exact refuses_walk v0 zl k a m W rl wk wa wm
theorem bitpackRefuses_holds : Rows.BitpackRefusesSaid :=
  OpenClaim.holds_of_wide 9 Try.f9 rfl rfl rfl rfl rfl rfl rfl ⟨rfl, rfl, rfl, rfl, rfl⟩ rfl rfl rfl rfl rfl (by kernel_rfl) Try.func9 (by kernel_rfl)
    (of_decide_eq_true (by kernel_rfl)) (by unfold Func.isWrapper; first | (rw [if_pos (by decide +kernel)]; kernel_rfl) | (rw [if_neg (by decide +kernel)]; exact ⟨rfl, rfl⟩))
    (fun os started H enc _ => bitpackRefuses_lifted os started H enc)
end Go.Proofs.Ytnlbfanbgicmgaa
