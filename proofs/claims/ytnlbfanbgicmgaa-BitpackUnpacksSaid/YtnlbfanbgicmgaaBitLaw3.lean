/- The statement of layer 2 on unpacking, out of the contracts. -/
import Derived.Test.YtnlbfanbgicmgaaBitLaw2
namespace Go.Proofs.Ytnlbfanbgicmgaa
open Go.RowKit Go.VB Go.VarM Go.BP Go.ChangeShapes Go.WideShapes Go.ChangeAt
open Go.ChangeMaps (open_string)
set_option linter.constructorNameAsVariable false
set_option maxRecDepth 100000 in
set_option maxHeartbeats 2000000 in
/-- Behind the cut of the text. -/
theorem unpacks_walk (s : ByteArray) (n k : Int) (W : World) (wn : (Lit.int .i64 n).wf = true) (wk : (Lit.int .i64 k).wf = true) :
    Calls Try.prog 7 #[.string s, .int .i64 n, .int .i64 k] W (RetB (.bool true) W) := by
  have ha := pickN_bd n (n := 80) (by decide)
  have hb := pickN_bd k (n := 67) (by decide)
  have HPN := fun w => Lib.hid (pick_at n 80 w wn (by decide) (by decide))
  have HPK := fun w => Lib.hid (pick_at k 67 w wk (by decide) (by decide))
  generalize pickN n 80 = a at *
  generalize pickN k 67 = b at *
  obtain ⟨a1, a2⟩ := ha
  obtain ⟨b1, b2⟩ := hb
  have hnd := needN_bd (a - 1) (b - 1)
  have HND := fun w => Lib.hid (rneed_any (a - 1) (b - 1) w)
  obtain ⟨⟨l1, c1⟩, hu1⟩ : ∃ p, unpackR s (a - 1) (b - 1) = p := ⟨_, rfl⟩
  obtain ⟨⟨l3, c3⟩, hu3⟩ : ∃ p, unpackR s n k = p := ⟨_, rfl⟩
  have HU1 := Lib.hid hu1; have HU3 := Lib.hid hu3; clear hu1 hu3 wn wk
  generalize needN (a - 1) (b - 1) = d at *
  obtain ⟨d1, d2⟩ := hnd
  obtain ⟨d, rfl⟩ := Int.eq_ofNat_of_zero_le d1
  have hex : ∀ t, ∃ l2 c2, Hid (unpackR t (a - 1) (b - 1) = (l2, c2)) := fun t => ⟨_, _, rfl⟩
  have HEX := Lib.hid hex; clear hex
  by_cases hsd : s.size ≤ d
  all_goals
    go_enter Try.func7, Try.ntmps7
    go_wp2_with fail
    refine (HPN _).out.mono ?_; rintro e w' ⟨rfl, rfl⟩
    go_wp2_with fail
    refine (HPK _).out.mono ?_; rintro e w' ⟨rfl, rfl⟩
    go_wp2_with fail
    refine (bunpack_eq _ _ _ _ HU1.out).mono ?_
    rintro e w1 ⟨x1, rfl, ho, hB⟩
    have r1 := ho.read
    clear ho
    go_wp2_with fail
    refine (runpack_eq _ _ _ _ HU1.out).mono ?_
    rintro e w2 ⟨x2, rfl, ho, hb⟩
    have r2 := ho.read
    replace r1 := r1.step hb
    replace hB := bel_trans hB hb
    clear ho hb
    go_wp2_with fail
    refine (HND _).out.mono ?_; rintro e w' ⟨rfl, rfl⟩
    go_wp2_with fail
    first
    | (obtain ⟨l2, c2, HU2⟩ := HEX.out s
       (with_reducible refine (bunpack_eq s _ _ _ HU2.out).mono ?_))
    | (obtain ⟨l2, c2, HU2⟩ := HEX.out (s.extract 0 d)
       (with_reducible refine (bunpack_eq (s.extract 0 d) _ _ _ HU2.out).mono ?_))
    rintro e w3 ⟨x3, rfl, ho, hb⟩
    have r3 := ho.read
    replace r1 := r1.step hb
    replace r2 := r2.step hb
    replace hB := bel_trans hB hb
    clear ho hb
    go_wp2_with fail
    refine (runpack_eq _ _ _ _ HU2.out).mono ?_
    rintro e w4 ⟨x4, rfl, ho, hb⟩
    have r4 := ho.read
    replace r1 := r1.step hb
    replace r2 := r2.step hb
    replace r3 := r3.step hb
    replace hB := bel_trans hB hb
    clear ho hb
    go_wp2_with fail
    refine (bunpack_eq _ _ _ _ HU3.out).mono ?_
    rintro e w5 ⟨x5, rfl, ho, hb⟩
    replace r1 := r1.step hb
    replace r2 := r2.step hb
    replace r3 := r3.step hb
    replace r4 := r4.step hb
    replace hB := bel_trans hB hb
    clear ho hb
    go_wp2_with fail
    refine (runpack_eq _ _ _ _ HU3.out).mono ?_
    rintro e w6 ⟨x6, rfl, ho, hb⟩
    replace r1 := r1.step hb
    replace r2 := r2.step hb
    replace r3 := r3.step hb
    replace r4 := r4.step hb
    replace hB := bel_trans hB hb
    clear ho hb
    go_wp2_with fail
    refine (awake2_any _).mono ?_
    rintro e w7 ⟨rfl, hb⟩
    replace r1 := r1.step hb
    replace r2 := r2.step hb
    replace r3 := r3.step hb
    replace r4 := r4.step hb
    replace hB := bel_trans hB hb
    clear hb
    go_wp2_with fail
    refine (same64_eq _ _ l1 _ _ r1 r2 (Nat.le_refl _)).mono ?_
    rintro e w8 ⟨rfl, hb⟩
    replace r3 := r3.step hb
    replace r4 := r4.step hb
    replace hB := bel_trans hB hb
    clear hb r1 r2
    go_wp2_with fail
    refine (same64_eq _ _ l2 _ _ r3 r4 (Nat.le_refl _)).mono ?_
    rintro e w9 ⟨rfl, hb⟩
    replace hB := bel_trans hB hb
    clear hb r3 r4
    go_wp2
    go_ret
    exact RetB.mk rfl hB
set_option maxRecDepth 100000 in
set_option maxHeartbeats 4000000 in
theorem bitpackUnpacks_lifted (os : Os) (started : os.Started) (H : Type) (enc : TypeId × Value → H) :
    ReturnsInHanded {} Try.checked os 7 .any (Rows.bitpackUnpacksSpec.pre6 enc Try.prog Try.f7 Rows.bitpackUnpacksRow.domain false) (Rows.bitpackUnpacksSpec.post enc Try.prog Try.f7 false true false false) := by
  refine law_lifted (C := Try.checked) (tb := 4) started Try.own Try.laidOut (by kernel_rfl) Try.func7
    (ChangeSpec.witness6 (enc := enc) (C := Try.checked) false ⟨#[], #[.string ⟨#[]⟩, .int .i64 0, .int .i64 0], []⟩ 8 (by kernel_rfl) (by kernel_rfl) (by kernel_rfl) (by kernel_rfl))
    rfl rfl Try.underlying4 (by kernel_rfl) (fun ds h => ?_) (fun W base args ds p hval0 hA0 hsz0 hlt => ?_)
  · have h' : ds.length = Try.f7.params.toList.length := h
    rw [Try.params7] at h'
    match ds, h' with
    | [_, _, _], _ => rfl
  · have hval : ∀ (j : Nat) t v, Try.f7.params[j]? = some t → args[j]? = some v → Value.okWide Try.prog W .any base t v := hval0
    have hA : DataW.TrodAll enc Try.prog W 0 (fun _ => true) true Try.f7.params.toList args.toList ds p := hA0
    have hsz : (DataW.weightsEach Try.prog Try.f7.params.toList ds).all (· ≤ reachBytes) = true := hsz0
    rw [Try.params7] at hA hval hsz
    clear hA0 hval0 hsz0
    obtain ⟨v0, vs0, d0, ds0, p0, q0, hargs, rfl, rfl, h0, r0⟩ := trodAll_cons hA
    obtain ⟨v1, vs1, d1, ds1, p1, q1, rfl, rfl, rfl, h1, r1⟩ := trodAll_cons r0
    obtain ⟨v2, vs2, d2, ds2, p2, q2, rfl, rfl, rfl, h2, r2⟩ := trodAll_cons r1
    obtain ⟨rfl, rfl, rfl⟩ := trodAll_nil r2
    obtain rfl : args = #[v0, v1, v2] := by cases args; simp_all
    obtain ⟨s, rfl, rfl, rfl, _⟩ := open_string Try.underlying9 (hval 0 9 v0 rfl rfl) h0
    have zs : s.size ≤ 140737488351232 := by have h := sized_string hsz (j := 0) (t := 9) rfl rfl; rw [size_list] at h; exact h
    obtain ⟨n, rfl, rfl, rfl, wn⟩ := open_int Try.underlying3 (hval 1 3 v1 rfl rfl) h1
    obtain ⟨k, rfl, rfl, rfl, wk⟩ := open_int Try.underlying3 (hval 2 3 v2 rfl rfl) h2
    change Calls Try.prog 7 #[.string s, .int .i64 n, .int .i64 k] W (RetB (.bool true) W)
    exact unpacks_walk s n k W wn wk
theorem bitpackUnpacks_holds : Rows.BitpackUnpacksSaid :=
  OpenClaim.holds_of_wide 7 Try.f7 rfl rfl rfl rfl rfl rfl rfl ⟨rfl, rfl, rfl, rfl, rfl⟩ rfl rfl rfl rfl rfl (by kernel_rfl) Try.func7 (by kernel_rfl)
    (of_decide_eq_true (by kernel_rfl)) (by unfold Func.isWrapper; first | (rw [if_pos (by decide +kernel)]; kernel_rfl) | (rw [if_neg (by decide +kernel)]; exact ⟨rfl, rfl⟩))
    (fun os started H enc _ => bitpackUnpacks_lifted os started H enc)
end Go.Proofs.Ytnlbfanbgicmgaa
