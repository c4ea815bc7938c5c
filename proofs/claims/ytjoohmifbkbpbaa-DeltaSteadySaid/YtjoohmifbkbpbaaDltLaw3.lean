/- A statement of layer 11: numbers with equal differences. -/
import Derived.Test.YtjoohmifbkbpbaaDltLaw
namespace Go.Proofs.Ytjoohmifbkbpbaa
open Go.RowKit Go.VB Go.VarM Go.BP Go.RL Go.DL Go.KS Go.ChangeShapes Go.WideShapes Go.ChangeAt
open Go.ChangeMaps (open_string)
set_option linter.constructorNameAsVariable false
set_option maxRecDepth 100000 in
set_option maxHeartbeats 4000000 in
theorem dsteady_walk (x t n : Int) (W : World) (wx : (Lit.int .i64 x).wf = true) (wt : (Lit.int .i64 t).wf = true) (wn : (Lit.int .i64 n).wf = true) :
    Calls Try.prog 8 #[.int .i64 x, .int .i64 t, .int .i64 n] W (RetB (.bool true) W) := by
  have hx := bounds_i64 wx
  have ht := bounds_i64 wt
  have HPK := fun w => Lib.hid (pick_at n 300 w wn (by omega) (by omega))
  obtain ⟨p1, p2⟩ := pickN_bd n (n := 300) (by omega)
  generalize pickN n 300 = p at *
  obtain ⟨p, rfl⟩ := Int.eq_ofNat_of_zero_le p1
  obtain ⟨N, hN⟩ : ∃ N : Nat, 1 + p = N := ⟨_, rfl⟩
  have hNi : 1 + (p : Int) = (N : Int) := by omega
  have hN1 : 1 ≤ N ∧ N ≤ 300 := by omega
  have hst := stp_enc (n := p) (by omega) ht hx
  have hpN : p + 1 = N := by omega
  have hpq : (p + 31) / 32 = (N - 1 + 31) / 32 := by rw [← hpN]; rfl
  rw [hpN, hpq] at hst
  have hi := stp_i64 t N x hx
  have hl := stp_len t N x
  have HST := Lib.hid hst; have HI := Lib.hid hi; have HL := Lib.hid hl
  clear wx wt wn p1 p2 hN hst hpN hpq hi hl
  go_enter Try.func8, Try.ntmps8
  go_wp2_with fail
  refine (HPK _).out.mono ?_; rintro e w' ⟨rfl, rfl⟩
  clear HPK
  go_wp2_with fail
  go_loopw [7, 8, 9] (fun o v i wr => ∃ (j : Nat), i = .int .i64 j ∧ j ≤ N ∧ v = .int .i64 (nth t j x) ∧ OwnV (Value.int .i64) 2 wr W.heap.size o (stp t j x) ∧ Below W.heap.size W wr) (fun _ _ i _ => N - (intOf i).toNat)
  case atStart => exact ⟨0, rfl, Nat.zero_le _, rfl, OwnV.nil _ _ _ _, Below.refl _ _⟩
  case round =>
    obtain ⟨j, rfl, hj, rfl, hown, hbel⟩ := hrel
    have HS1 := Lib.hid (stp_snoc t j x); have HS2 := Lib.hid (nth_succ t j x)
    have hlj := stp_len t j x
    by_cases hjN : j < N
    · have hnb := nth_bd t j x hx
      have hl1 : (stp t j x).length ≤ 300 := by omega
      have hszk := hbel.size
      generalize stp t j x = l at *
      generalize nth t j x = V at *
      have HO := Lib.hid (hown.alloc (.cells #[.int .i64 V] 2))
      have HBA := Lib.hid (hbel.alloc hszk (.cells #[.int .i64 V] 2))
      have HL1 := Lib.hid (show l.length + [V].length ≤ maxLen by unfold maxLen; simp only [List.length_cons, List.length_nil]; omega)
      have HL2 := Lib.hid (show (l.length + [V].length) * 8 ≤ 140737488355328 by simp only [List.length_cons, List.length_nil]; omega)
      have HL3 := Lib.hid (HBA.out).size
      clear hlj hown hbel hszk
      go_wp2_with (at_builtin; refine wpl_appV (f := Value.int .i64) (fun _ => rfl) (.int .i64 0) rfl rfl _ _ 23 rfl W.heap.size 2 8 Try.underlying23 Try.infI64 _ l rfl HO.out _ _ [V] rfl (RdV.one _ _ _ _ _ (by decide) (by decide)) HL1.out HL2.out HL3.out ?_)
      intro v' w' hown' hb' _
      have hbel' := HBA.out.trans hb'
      go_wp2_with fail
      go_roundw
      case rel => exact ⟨j + 1, by go_num, hjN, vint HS2.out.symm, by rw [HS1.out]; exact hown', hbel'⟩
      case measure => simp [intOf] <;> omega
    · have hjn : j = N := by omega
      subst hjn
      have hrx := hown.read
      have hEN := Lib.hid (dencode_any _ _ _ wr hrx (Nat.le_refl _) HI.out)
      have hse : (str (encX (stp t j x))).size ≤ 140737488351232 := by
        have := encX_len HI.out
        rw [str_size]; omega
      have hde := decX_enc (l := stp t j x) (by rw [HL.out]; omega) HI.out
      have HDE := fun w => Lib.hid (ddecode_any (str (encX (stp t j x))) ((stp t j x).length : Nat) w hse)
      rw [hde, HL.out] at HDE
      have hsz : (str (encX (stp t j x))).size ≤ 10 + 11 * ((j - 1 + 31) / 32) := by rw [str_size]; exact HST.out
      clear HST HI hde HS1 HS2 hlj hown hjN
      generalize str (encX (stp t j x)) = S at *
      generalize stp t j x = l at *
      obtain ⟨q, hq⟩ : ∃ q, (j - 1 + 31) / 32 = q := ⟨_, rfl⟩
      rw [hq] at hsz
      have hqi : ((j : Int) - 1 + 32 - 1) / 32 = (q : Int) := by omega
      have hqb : q ≤ 11 := by omega
      have hszi : (S.size : Int) ≤ 10 + 11 * (q : Int) := by omega
      have HR := Lib.hid hrx
      clear hq hrx
      go_wp2_with fail
      refine hEN.out.mono ?_; rintro e w2 ⟨rfl, hb⟩
      have hr1 := HR.out.step hb
      have hB := bel_trans hbel hb
      clear hb HR hEN hbel
      go_wp2_with fail
      refine (HDE _).out.mono ?_; rintro e w3 ⟨v3, rfl, hown3, hb⟩
      have hr3 := hown3.read
      replace hr1 := hr1.step hb; replace hB := bel_trans hB hb
      clear hb HDE hown3
      go_wp2_with fail
      refine (awake11_any _).mono ?_; rintro e w4 ⟨rfl, hb⟩
      replace hr1 := hr1.step hb; replace hr3 := hr3.step hb; replace hB := bel_trans hB hb
      clear hb
      go_wp2_with fail
      refine (same_i_eq _ _ l _ _ hr3 hr1 (Nat.le_refl _)).mono ?_; rintro e w5 ⟨rfl, hb⟩
      replace hB := bel_trans hB hb
      clear hb hr3 hr1
      go_wp2
      go_ret
      exact RetB.mk rfl hB
set_option maxRecDepth 100000 in
set_option maxHeartbeats 4000000 in
theorem deltaSteady_lifted (os : Os) (started : os.Started) (H : Type) (enc : TypeId × Value → H) :
    ReturnsInHanded {} Try.checked os 8 .any (Rows.deltaSteadySpec.pre6 enc Try.prog Try.f8 Rows.deltaSteadyRow.domain false) (Rows.deltaSteadySpec.post enc Try.prog Try.f8 false true false false) := by
  refine law_lifted (C := Try.checked) (tb := 4) started Try.own Try.laidOut (by kernel_rfl) Try.func8
    (ChangeSpec.witness6 (enc := enc) (C := Try.checked) false ⟨#[], #[.int .i64 0, .int .i64 0, .int .i64 0], []⟩ 8 (by kernel_rfl) (by kernel_rfl) (by kernel_rfl) (by kernel_rfl))
    rfl rfl Try.underlying4 (by kernel_rfl) (fun ds h => ?_) (fun W base args ds p hval0 hA0 hsz0 hlt => ?_)
  · have h' : ds.length = Try.f8.params.toList.length := h
    rw [Try.params8] at h'
    match ds, h' with
    | [_, _, _], _ => rfl
  · have hval : ∀ (j : Nat) t v, Try.f8.params[j]? = some t → args[j]? = some v → Value.okWide Try.prog W .any base t v := hval0
    have hA : DataW.TrodAll enc Try.prog W 0 (fun _ => true) true Try.f8.params.toList args.toList ds p := hA0
    have hsz : (DataW.weightsEach Try.prog Try.f8.params.toList ds).all (· ≤ reachBytes) = true := hsz0
    rw [Try.params8] at hA hval hsz
    clear hA0 hval0 hsz0
    obtain ⟨v0, vs0, d0, ds0, p0, q0, hargs, rfl, rfl, h0, r0⟩ := trodAll_cons hA
    obtain ⟨v1, vs1, d1, ds1, p1, q1, rfl, rfl, rfl, h1, r1⟩ := trodAll_cons r0
    obtain ⟨v2, vs2, d2, ds2, p2, q2, rfl, rfl, rfl, h2, r2⟩ := trodAll_cons r1
    obtain ⟨rfl, rfl, rfl⟩ := trodAll_nil r2
    obtain rfl : args = #[v0, v1, v2] := by cases args; simp_all
    obtain ⟨x, rfl, rfl, rfl, wx⟩ := open_int Try.underlying2 (hval 0 2 v0 rfl rfl) h0
    obtain ⟨t, rfl, rfl, rfl, wt⟩ := open_int Try.underlying2 (hval 1 2 v1 rfl rfl) h1
    obtain ⟨n, rfl, rfl, rfl, wn⟩ := open_int Try.underlying3 (hval 2 3 v2 rfl rfl) h2
    change Calls Try.prog 8 #[.int .i64 x, .int .i64 t, .int .i64 n] W (RetB (.bool true) W)
    exact dsteady_walk x t n W wx wt wn
theorem deltaSteady_holds : Rows.DeltaSteadySaid :=
  OpenClaim.holds_of_wide 8 Try.f8 rfl rfl rfl rfl rfl rfl rfl ⟨rfl, rfl, rfl, rfl, rfl⟩ rfl rfl rfl rfl rfl (by kernel_rfl) Try.func8 (by kernel_rfl)
    (of_decide_eq_true (by kernel_rfl)) (by unfold Func.isWrapper; first | (rw [if_pos (by decide +kernel)]; kernel_rfl) | (rw [if_neg (by decide +kernel)]; exact ⟨rfl, rfl⟩))
    (fun os started H enc _ => deltaSteady_lifted os started H enc)
end Go.Proofs.Ytjoohmifbkbpbaa
