/- The walks over the reference's chunks, read: body in one contract, DecodeChunk. -/
import Derived.Test.YtbolbbngncnecaaGreatCkR8
import Derived.Test.YtbolbbngncnecaaGreatCkWA
namespace Go.CK
open Go.RowKit Go.VB Go.VarM Go.BP Go.VS Go.VL Go.NU Go.Proofs.YtbolbbngncnecaaGreat
/-- What DecodeChunk finds, by what body finds. -/
def finB : Option (List Vl) → List Vl × Nat
  | some l => (l, 0)
  | none => ([], 2)
theorem decC_body {typ : Int} {nu : Bool} {s : ByteArray} (hT : okT typ = true) (hs : soundN s = 0) : decC typ nu s = finB (bodyD typ nu (s.extract 0 (s.size - 4))) := by
  unfold decC finB
  rw [if_neg (by simp [hT]), if_neg (by simp [hs])]
  rfl
end Go.CK
namespace Go.Proofs.YtbolbbngncnecaaGreat
open Go.RowKit Go.VB Go.VarM Go.BP Go.RL Go.VS Go.VL Go.DI Go.CK Go.NU
theorem rbody_any (nm : ByteArray) (ty sc : Int) (nu : Bool) (s : ByteArray) (W : World) (zs : s.size ≤ 140737488351232) (h0 : 1 ≤ s.size) : Calls Tryz.prog 46 #[(.agg #[.string nm, .int .i64 ty, .int .i64 sc, .bool nu]), .string s] W (PlP (bodyD ty nu s) W) := by
  obtain ⟨n, q, e, h1⟩ : ∃ n q e, getR s 1 = (n, q, e) := ⟨_, _, _, rfl⟩
  by_cases hA : e ≠ 0 ∨ 4096 < n ∨ uses ty (bN s 0 : Nat) = false
  · exact rbody_1 nm ty sc nu s W zs h0 h1 hA
  · have he : e = 0 := Decidable.byContradiction fun h => hA (.inl h)
    have hn : n ≤ 4096 := Nat.le_of_not_lt fun h => hA (.inr (.inl h))
    have hu : uses ty (bN s 0 : Nat) = true := by
      cases h : uses ty (bN s 0 : Nat) with
      | true => rfl
      | false => exact absurd (.inr (.inr h)) hA
    subst he
    obtain ⟨k, r, f, h2⟩ : ∃ k r f, getR s q = (k, r, f) := ⟨_, _, _, rfl⟩
    by_cases hB : f ≠ 0 ∨ n < k
    · exact rbody_2 nm ty sc nu s W zs h0 h1 hn hu h2 hB
    · have hf : f = 0 := Decidable.byContradiction fun h => hB (.inl h)
      have hkn : k ≤ n := Nat.le_of_not_lt fun h => hB (.inr h)
      subst hf
      obtain ⟨a, m, _, e2, _, e4, _, _⟩ := getR_zero h2
      obtain ⟨r, rfl⟩ : ∃ r' : Nat, r = r' := ⟨a + m, by omega⟩
      have hr : r ≤ s.size := by omega
      clear e2 e4
      by_cases hk : k = 0
      · subst hk
        exact rbody_0 nm ty sc nu s W zs h0 h1 hn hu h2 hr
      · by_cases hlo : s.size < r + (n + 7) / 8
        · exact rbody_ks nm ty sc nu s W zs h0 h1 hn hu h2 hr hk hkn hlo
        · by_cases hbad : (upk (s.extract r (r + (n + 7) / 8)) n).2 ≠ 0 ∨ ones (num (s.extract r (r + (n + 7) / 8))) (8 * ((n + 7) / 8)) ≠ k
          · exact rbody_kb nm ty sc nu s W zs h0 h1 hn hu h2 hr hk hkn (Nat.le_of_not_lt hlo) hbad
          · exact rbody_k nm ty sc nu s W zs h0 h1 hn hu h2 hr hk hkn (Nat.le_of_not_lt hlo) (Decidable.byContradiction fun h => hbad (.inl h)) (Decidable.byContradiction fun h => hbad (.inr h))
section
variable (nm : ByteArray) (ty sc : Int) (nu : Bool) (s : ByteArray) (W : World) (zs : s.size ≤ 140737488351232)
include zs
omit zs in
set_option maxRecDepth 100000 in
set_option maxHeartbeats 400000 in
theorem rdecT (hT : okT ty = false) : Calls Tryz.prog 25 #[(.agg #[.string nm, .int .i64 ty, .int .i64 sc, .bool nu]), .string s] W (RetRdE (decC ty nu s).1 (decC ty nu s).2 W) := by
  rw [decC_type hT]
  have HT := fun w => Lib.hid (rtyped_any ty w)
  rw [hT] at HT
  have HB1 := Lib.hid ((Below.refl W.heap.size W).alloc (Nat.le_refl _) (.cells #[.string nm, .int .i64 ty, .int .i64 sc, .bool nu] 24))
  clear hT
  go_enter Tryz.func25, Tryz.ntmps25
  go_wp2_with fail
  (with_reducible refine (HT _).out.mono ?_); rintro e w1 ⟨rfl, rfl⟩
  go_wp2
  go_ret2
  exact RetRdE.mk rfl (RdL.nil _ _) HB1.out
set_option maxRecDepth 100000 in
set_option maxHeartbeats 400000 in
theorem rdecS (hT : okT ty = true) (hs : soundN s ≠ 0) : Calls Tryz.prog 25 #[(.agg #[.string nm, .int .i64 ty, .int .i64 sc, .bool nu]), .string s] W (RetRdE (decC ty nu s).1 (decC ty nu s).2 W) := by
  rw [decC_bad hT hs]
  have HT := fun w => Lib.hid (rtyped_any ty w)
  rw [hT] at HT
  have HC := fun w => Lib.hid (sound_any s w zs)
  have HB1 := Lib.hid ((Below.refl W.heap.size W).alloc (Nat.le_refl _) (.cells #[.string nm, .int .i64 ty, .int .i64 sc, .bool nu] 24))
  have hd := chkE_ne hs
  generalize soundN s = E at *
  clear hT hs
  go_enter Tryz.func25, Tryz.ntmps25
  go_wp2_with fail
  (with_reducible refine (HT _).out.mono ?_); rintro e w1 ⟨rfl, rfl⟩
  go_wp2_with fail
  (with_reducible refine (HC _).out.mono ?_); rintro e w2 ⟨rfl, hb2⟩
  go_wp2
  go_ret2
  exact RetRdE.mk rfl (RdL.nil _ _) (bel_trans HB1.out hb2)
set_option maxRecDepth 100000 in
set_option maxHeartbeats 400000 in
theorem rdecG (hT : okT ty = true) (hs : soundN s = 0) : Calls Tryz.prog 25 #[(.agg #[.string nm, .int .i64 ty, .int .i64 sc, .bool nu]), .string s] W (RetRdE (decC ty nu s).1 (decC ty nu s).2 W) := by
  rw [decC_body hT hs]
  have h5 : 5 ≤ s.size := Nat.le_of_not_lt fun h => by rw [soundN_short h] at hs; cases hs
  have HT := fun w => Lib.hid (rtyped_any ty w)
  rw [hT] at HT
  have HC := fun w => Lib.hid (sound_any s w zs)
  rw [hs] at HC
  obtain ⟨T, hTx⟩ : ∃ T, s.extract 0 (s.size - 4) = T := ⟨_, rfl⟩
  rw [hTx]
  have hTs : T.size = s.size - 4 := by rw [← hTx, ByteArray.size_extract]; omega
  have HV := fun w => Lib.hid (rbody_any nm ty sc nu T w (by omega) (by omega))
  have HB1 := Lib.hid ((Below.refl W.heap.size W).alloc (Nat.le_refl _) (.cells #[.string nm, .int .i64 ty, .int .i64 sc, .bool nu] 24))
  have HS1 := Lib.hid (show (W.alloc (.cells #[.string nm, .int .i64 ty, .int .i64 sc, .bool nu] 24)).heap.size = W.heap.size + 1 from by simp)
  have HVR := Lib.hid (Var4.new W (.string nm) (.int .i64 ty) (.int .i64 sc) (.bool nu) 24)
  generalize bodyD ty nu T = D at *
  have HD1 := Lib.hid (fun (l : List Vl) (h : D = some l) => show finB D = (l, 0) by rw [h]; rfl)
  have HD2 := Lib.hid (fun (h : D = none) => show finB D = ([], 2) by rw [h]; rfl)
  generalize finB D = R at *
  have h4 : (4 : Int) ≤ (s.size : Int) := by omega
  have h4' : (s.size : Int) - 4 ≤ (s.size : Int) := by omega
  have hw : wrap64 ((s.size : Int) - 4) = (s.size : Int) - 4 := by unfold wrap64; omega
  have hw2 : IntKind.i64.wrap ((s.size : Int) - 4) = (s.size : Int) - 4 := IntWalk.i64_in _ ⟨by omega, by omega⟩
  have hn4 : ((s.size : Int) - 4).toNat = s.size - 4 := by omega
  clear hT hs hTs h5
  go_enter Tryz.func25, Tryz.ntmps25
  go_wp2_with fail
  (with_reducible refine (HT _).out.mono ?_); rintro e w1 ⟨rfl, rfl⟩
  go_wp2_with fail
  (with_reducible refine (HC _).out.mono ?_); rintro e w2 ⟨rfl, hb2⟩
  have hbw : Below (W.heap.size + 1) (W.alloc (.cells #[.string nm, .int .i64 ty, .int .i64 sc, .bool nu] 24)) w2 := by have h := hb2; rw [HS1.out] at h; exact h
  obtain ⟨v0, v1, v2, v3⟩ := HVR.out.below hbw (Nat.lt_succ_self _)
  clear HT HC
  go_wp2_with fail
  go_region_with (first
    | (go_at_call 46; (with_reducible refine (HV _).out.mono ?_); rintro e w3 ⟨v, l, ok, rfl, hr, hd, hb3⟩))
  all_goals
    have hB := bel_trans (bel_trans HB1.out hb2) (bel_trans (by go_grown) hb3)
    have HR := Lib.hid hr
    clear hr
    rcases hd with ⟨rfl, hd⟩ | ⟨rfl, hd⟩
    · have HE := Lib.hid (HD1.out l hd)
      clear hd v0 v1 v2 v3 hb3
      go_wp2
      go_ret2
      rw [HE.out]
      exact RetRdE.mk rfl HR.out hB
    · have HE := Lib.hid (HD2.out hd)
      clear hd v0 v1 v2 v3 hb3
      go_wp2
      go_ret2
      rw [HE.out]
      exact RetRdE.mk rfl (RdL.nil _ _) hB
theorem rdecchunk_any : Calls Tryz.prog 25 #[(.agg #[.string nm, .int .i64 ty, .int .i64 sc, .bool nu]), .string s] W (RetRdE (decC ty nu s).1 (decC ty nu s).2 W) := by
  cases hT : okT ty with
  | false => exact rdecT nm ty sc nu s W hT
  | true =>
    by_cases hs : soundN s = 0
    · exact rdecG nm ty sc nu s W zs hT hs
    · exact rdecS nm ty sc nu s W zs hT hs
end
end Go.Proofs.YtbolbbngncnecaaGreat
