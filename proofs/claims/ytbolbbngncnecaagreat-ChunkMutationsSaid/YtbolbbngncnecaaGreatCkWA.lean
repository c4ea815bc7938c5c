/- The walks over package chunk: getValues, Decode, Codec. -/
import Derived.Test.YtbolbbngncnecaaGreatCkW9
namespace Go.CK
open Go.RowKit Go.VB Go.VarM Go.BP Go.VS Go.NU Go.VL
/-- It returns the values l and the code c; what was there is as it was. -/
def RetRdE (l : List Vl) (c : Nat) (w : World) : Ending → World → Prop := fun en w' => ∃ v, en = .returned (.tuple #[v, .int .i64 (c : Int)]) ∧ RdL w' w'.heap.size v l ∧ Below w.heap.size w w'
theorem RetRdE.mk {l : List Vl} {c : Nat} {w w' : World} {x v : Value} (hx : x = .tuple #[v, .int .i64 (c : Int)]) (hr : RdL w' w'.heap.size v l) (hb : Below w.heap.size w w') : RetRdE l c w (.returned x) w' := ⟨v, by rw [hx], hr, hb⟩
theorem nulD_len {s : ByteArray} {p : Int} {b : List Bool} {q : Nat} (h : nulD s p = some (b, q)) : b.length ≤ 4096 ∧ q ≤ s.size := by
  obtain ⟨n, q1, e, h1⟩ : ∃ n q e, getR s p = (n, q, e) := ⟨_, _, _, rfl⟩
  by_cases he : e = 0
  · subst he
    by_cases hn : n ≤ 4096
    · obtain ⟨k, q2, e2, h2⟩ : ∃ k q2 e2, getR s q1 = (k, q2, e2) := ⟨_, _, _, rfl⟩
      by_cases he2 : e2 = 0
      · subst he2
        obtain ⟨x, y, -, rfl, -, hxy, -, -⟩ := Go.RL.getR_zero h2
        have h2' : getR s q1 = (k, ((x + y : Nat) : Int), 0) := by rw [h2]; push_cast; rfl
        by_cases hk : k = 0
        · subst hk
          rw [nulD_zero h1 hn h2'] at h
          simp only [Option.some.injEq, Prod.mk.injEq] at h
          obtain ⟨rfl, rfl⟩ := h
          exact ⟨by rw [List.length_replicate]; exact hn, hxy⟩
        · by_cases hs : s.size < x + y + (n + 7) / 8
          · rw [nulD_short h1 hn h2' hk rfl hs] at h; cases h
          · by_cases hb : (upk (s.extract (x + y) (x + y + (n + 7) / 8)) n).2 = 0
            · by_cases hc : ones (num (s.extract (x + y) (x + y + (n + 7) / 8))) (8 * ((n + 7) / 8)) = k
              · rw [nulD_ok h1 hn h2' hk rfl (by omega) rfl hb hc] at h
                simp only [Option.some.injEq, Prod.mk.injEq] at h
                obtain ⟨rfl, rfl⟩ := h
                exact ⟨by rw [(upk_ones hn hb).1]; exact hn, by omega⟩
              · rw [nulD_bad h1 hn h2' hk rfl (by omega) rfl (.inr hc)] at h; cases h
            · rw [nulD_bad h1 hn h2' hk rfl (by omega) rfl (.inl hb)] at h; cases h
      · rw [nulD_e2 h1 hn h2 he2] at h; cases h
    · rw [nulD_big h1 (by omega)] at h; cases h
  · rw [nulD_e h1 he] at h; cases h
/-- The values, if each is valid. -/
def finV (typ : Int) (nu : Bool) : Option (List Vl) → List Vl × Nat
  | some l => if firstE typ nu l = 0 then (l, 0) else ([], 2)
  | none => ([], 2)
theorem decC_fin {typ : Int} {nu : Bool} {s : ByteArray} (hT : okT typ = true) (hs : soundN s = 0) : decC typ nu s = finV typ nu (valD typ (s.extract 0 (s.size - 4))) := by
  rw [decC_val hT hs]
  cases valD typ (s.extract 0 (s.size - 4)) <;> rfl
theorem chkE_ne {E : Nat} (h : E ≠ 0) : ((E : Int) != 0) = true := ine_t (by omega)
theorem uses_le {typ : Int} {x : Nat} (h : uses typ x = true) : 1 ≤ x ∧ x ≤ 4 := by
  rcases uses_cases h with ⟨_, h⟩ | ⟨_, h⟩ <;> omega
theorem valD_use {typ : Int} {s : ByteArray} (h : uses typ (bN s 0 : Nat) = false) : valD typ s = none := by unfold valD; rw [if_pos h]
theorem valD_nul {typ : Int} {s : ByteArray} (h : uses typ (bN s 0 : Nat) = true) (hn : nulD s 1 = none) : valD typ s = none := by unfold valD; rw [if_neg (by simp [h]), hn]; rfl
theorem valD_pay {typ : Int} {s : ByteArray} {b : List Bool} {q : Nat} (h : uses typ (bN s 0 : Nat) = true) (hn : nulD s 1 = some (b, q)) : valD typ s = (payD typ (bN s 0 : Nat) (s.extract q s.size) (b.count false)).map fun l => weave b l := by unfold valD; rw [if_neg (by simp [h]), hn]; rfl
end Go.CK
namespace Go.Proofs.YtbolbbngncnecaaGreat
open Go.RowKit Go.VB Go.VarM Go.BP Go.RL Go.VS Go.VL Go.DI Go.CK Go.NU
section
variable (typ : Int) (s : ByteArray) (W : World) (hT : okT typ = true) (zs : s.size ≤ 140737488351232) (h1 : 1 ≤ s.size)
include hT zs h1
set_option maxRecDepth 100000 in
set_option maxHeartbeats 400000 in
theorem getVal_use (hu : uses typ (bN s 0 : Nat) = false) : Calls Tryz.prog 34 #[.int .i64 typ, .string s] W (PlP (valD typ s) W) := by
  rw [valD_use hu]
  have HC := fun w => Lib.hid (codecs_any typ w)
  have HI := fun v w h => Lib.hid (contains_any v (cds typ) (bN s 0) w h)
  rw [cds_uses hT, hu] at HI
  have hb0 := get_bN s
  have hbl := bN_lt s 0
  have hlt : (0 : Int) < (s.size : Int) := by omega
  have hlt2 : 0 < s.size := h1
  generalize cds typ = cl at *
  obtain ⟨x, hx⟩ : ∃ x, bN s 0 = x := ⟨_, rfl⟩
  rw [hx] at HI hbl
  have hw : wrap64 (x : Int) = (x : Int) := by unfold wrap64; omega
  clear hT hu
  go_enter Tryz.func34, Tryz.ntmps34
  go_wp2_with fail
  (with_reducible refine (HC _).out.mono ?_); rintro e w1 ⟨v, rfl, hr, hb1⟩
  go_wp2_with fail
  (with_reducible refine (HI v _ hr).out.mono ?_); rintro e w2 ⟨rfl, hb2⟩
  go_wp2
  go_ret2
  exact PlP.mk rfl (RdL.nil _ _) (.inr ⟨rfl, rfl⟩) (bel_trans hb1 hb2)
set_option maxRecDepth 100000 in
set_option maxHeartbeats 400000 in
theorem getVal_nul (hu : uses typ (bN s 0 : Nat) = true) (hn : nulD s 1 = none) : Calls Tryz.prog 34 #[.int .i64 typ, .string s] W (PlP (valD typ s) W) := by
  rw [valD_nul hu hn]
  have HC := fun w => Lib.hid (codecs_any typ w)
  have HI := fun v w h => Lib.hid (contains_any v (cds typ) (bN s 0) w h)
  rw [cds_uses hT, hu] at HI
  have HN := fun w => Lib.hid (getNul_any s 1 w zs)
  rw [hn] at HN
  have hb0 := get_bN s
  have hbl := bN_lt s 0
  have hlt : (0 : Int) < (s.size : Int) := by omega
  have hlt2 : 0 < s.size := h1
  generalize cds typ = cl at *
  obtain ⟨x, hx⟩ : ∃ x, bN s 0 = x := ⟨_, rfl⟩
  rw [hx] at HI hbl
  have hw : wrap64 (x : Int) = (x : Int) := by unfold wrap64; omega
  clear hT hu hn
  go_enter Tryz.func34, Tryz.ntmps34
  go_wp2_with fail
  (with_reducible refine (HC _).out.mono ?_); rintro e w1 ⟨v, rfl, hr, hb1⟩
  go_wp2_with fail
  (with_reducible refine (HI v _ hr).out.mono ?_); rintro e w2 ⟨rfl, hb2⟩
  go_wp2_with fail
  (with_reducible refine (HN _).out.mono ?_); rintro e w3 ⟨vn, b, q, ok, rfl, hrn, hd, hb3⟩
  rcases hd with ⟨rfl, k, rfl, hd⟩ | ⟨rfl, -⟩
  · cases hd
  · clear hrn
    have hB := bel_trans (bel_trans hb1 hb2) hb3
    go_wp2
    go_ret2
    exact PlP.mk rfl (RdL.nil _ _) (.inr ⟨rfl, rfl⟩) hB
set_option maxRecDepth 100000 in
set_option maxHeartbeats 400000 in
theorem getVal_go {b : List Bool} {q : Nat} (hu : uses typ (bN s 0 : Nat) = true) (hn : nulD s 1 = some (b, q)) : Calls Tryz.prog 34 #[.int .i64 typ, .string s] W (PlP (valD typ s) W) := by
  rw [valD_pay hu hn]
  obtain ⟨hbl4, hqs⟩ := nulD_len hn
  have HC := fun w => Lib.hid (codecs_any typ w)
  have HI := fun v w h => Lib.hid (contains_any v (cds typ) (bN s 0) w h)
  rw [cds_uses hT, hu] at HI
  have HN := fun w => Lib.hid (getNul_any s 1 w zs)
  rw [hn] at HN
  have hcl := List.count_le_length (a := false) (l := b)
  obtain ⟨U, hU⟩ : ∃ U, s.extract q s.size = U := ⟨_, rfl⟩
  have hUs : U.size ≤ s.size := by rw [← hU, ByteArray.size_extract]; omega
  have HP := fun w => Lib.hid (getPay_any typ U (b.count false) w (by omega) (by omega) (bN s 0) (uses_le hu).1 (uses_le hu).2)
  have HPL := Lib.hid (fun (l : List Vl) (h : payD typ (bN s 0 : Nat) U (b.count false) = some l) => payD_len (by omega) h)
  rw [hU]
  have hb0 := get_bN s
  have hbl := bN_lt s 0
  have hlt : (0 : Int) < (s.size : Int) := by omega
  have hlt2 : 0 < s.size := h1
  generalize cds typ = cl at *
  obtain ⟨x, hx⟩ : ∃ x, bN s 0 = x := ⟨_, rfl⟩
  rw [hx] at HI hbl HP HPL ⊢
  have hw : wrap64 (x : Int) = (x : Int) := by unfold wrap64; omega
  generalize payD typ (x : Int) U (b.count false) = D at *
  have hq2 : (q : Int) ≤ (s.size : Int) := by omega
  have HCN := Lib.hid (show b.count false ≤ 4096 by omega)
  obtain ⟨N, hN⟩ : ∃ N, b.count false = N := ⟨_, rfl⟩
  rw [hN] at HP HPL HCN
  have HNN := Lib.hid hN
  clear hT hu hn hUs hcl hN
  go_enter Tryz.func34, Tryz.ntmps34
  go_wp2_with fail
  (with_reducible refine (HC _).out.mono ?_); rintro e w1 ⟨v, rfl, hr, hb1⟩
  go_wp2_with fail
  (with_reducible refine (HI v _ hr).out.mono ?_); rintro e w2 ⟨rfl, hb2⟩
  go_wp2_with fail
  (with_reducible refine (HN _).out.mono ?_); rintro e w3 ⟨vn, b', q', ok, rfl, hrn, hd, hb3⟩
  rcases hd with ⟨rfl, k, rfl, hd⟩ | ⟨rfl, hd⟩
  · simp only [Option.some.injEq, Prod.mk.injEq] at hd
    obtain ⟨hd1, hd2⟩ := hd
    rw [← hd1] at hrn
    rw [← hd2]
    clear hd1 hd2
    have hB := bel_trans (bel_trans hb1 hb2) hb3
    clear hr hb1 hb2 hb3 HC HI HN
    obtain ⟨A, c, _, rfl, rfl, hc1, hc2⟩ := hrn.bds
    have HRN := Lib.hid hrn
    have HBB := Lib.hid hB
    clear hrn hB
    go_wp2_with fail
    go_loopw [10, 32] (fun ct i wr => ∃ (j k : Nat), i = .int .i64 j ∧ ct = .int .i64 k ∧ j ≤ b.length ∧ k = (b.take j).count false ∧ k ≤ j ∧ Below w3.heap.size w3 wr) (fun _ i _ => b.length - (intOf i).toNat)
    case atStart => exact ⟨0, 0, rfl, rfl, Nat.zero_le _, rfl, Nat.le_refl _, Below.refl _ _⟩
    case round =>
      obtain ⟨j, k, rfl, rfl, hj, hk, hkj, hbel⟩ := hrel
      have HK := Lib.hid hk; clear hk
      by_cases hlt : j < b.length
      · have hlj : b[j]? = some b[j] := List.getElem?_eq_getElem hlt
        obtain ⟨ad, rfl, _, q0⟩ := (HRN.out.below hbel).at hlj
        have HCS := Lib.hid (count_snoc hlj); clear hlj
        generalize b[j] = y at q0 HCS
        replace q0 : wr.cell? (ad.add j) = some (.bool y) := q0
        cases y
        · go_wp2_with fail
          go_roundw
          case rel => exact ⟨j + 1, k + 1, by go_num, by go_num, hlt, by rw [HCS.out, HK.out]; rfl, by omega, hbel⟩
          case measure => simp [intOf] <;> omega
        · go_wp2_with fail
          go_roundw
          case rel => exact ⟨j + 1, k, by go_num, rfl, hlt, by rw [HCS.out, HK.out]; rfl, by omega, hbel⟩
          case measure => simp [intOf] <;> omega
      · have HKN := Lib.hid (show k = N by rw [HK.out, List.take_of_length_le (by omega)]; exact HNN.out)
        obtain rfl := HKN.out
        clear HKN HK
        have HR3 := Lib.hid (HRN.out.step hbel)
        go_wp2_with fail
        (with_reducible refine (HP _).out.mono ?_); rintro e w5 ⟨vp, l, ok, rfl, hrp, hd, hb5⟩
        have hr5 := HR3.out.step hb5
        have hb35 := bel_trans hbel hb5
        clear hbel hb5 HP
        rcases hd with ⟨rfl, hd⟩ | ⟨rfl, hd⟩
        · have hJ := Lib.hid (join_any _ vp b l w5 hr5 hrp hbl4 (by rw [HPL.out l hd]; exact HNN.out.symm))
          have HD := Lib.hid hd
          clear hd hrp hr5
          go_wp2_with fail
          (with_reducible refine hJ.out.mono ?_); rintro e w6 ⟨vj, rfl, hown, hb6⟩
          have hr6 := hown.read
          have hB6 := bel_trans (HBB.out) (bel_trans hb35 hb6)
          clear hown hb35 hb6
          go_wp2
          go_ret2
          exact PlP.mk rfl hr6 (.inl ⟨rfl, by rw [HD.out]; rfl⟩) hB6
        · have HD := Lib.hid hd
          have hB6 := bel_trans HBB.out hb35
          clear hd hrp hr5 hb35
          go_wp2
          go_ret2
          exact PlP.mk rfl (RdL.nil _ _) (.inr ⟨rfl, by rw [HD.out]; rfl⟩) hB6
  · cases hd
theorem getVal_any : Calls Tryz.prog 34 #[.int .i64 typ, .string s] W (PlP (valD typ s) W) := by
  cases hu : uses typ (bN s 0 : Nat) with
  | false => exact getVal_use typ s W hT zs h1 hu
  | true =>
    cases hn : nulD s 1 with
    | none => exact getVal_nul typ s W hT zs h1 hu hn
    | some x => exact getVal_go typ s W hT zs h1 hu (b := x.1) (q := x.2) hn
end
section
variable (nm : ByteArray) (ty sc : Int) (nu : Bool) (s : ByteArray) (W : World) (zs : s.size ≤ 140737488351232)
include zs
omit zs in
set_option maxRecDepth 100000 in
set_option maxHeartbeats 400000 in
theorem decT (hT : okT ty = false) : Calls Tryz.prog 13 #[(.agg #[.string nm, .int .i64 ty, .int .i64 sc, .bool nu]), .string s] W (RetRdE (decC ty nu s).1 (decC ty nu s).2 W) := by
  rw [decC_type hT]
  have HT := fun w => Lib.hid (cisType_any ty w)
  rw [hT] at HT
  have HB1 := Lib.hid ((Below.refl W.heap.size W).alloc (Nat.le_refl _) (.cells #[.string nm, .int .i64 ty, .int .i64 sc, .bool nu] 24))
  clear hT
  go_enter Tryz.func13, Tryz.ntmps13
  go_wp2_with fail
  (with_reducible refine (HT _).out.mono ?_); rintro e w1 ⟨rfl, hb1⟩
  go_wp2
  go_ret2
  exact RetRdE.mk rfl (RdL.nil _ _) (bel_trans HB1.out hb1)
set_option maxRecDepth 100000 in
set_option maxHeartbeats 400000 in
theorem decS (hT : okT ty = true) (hs : soundN s ≠ 0) : Calls Tryz.prog 13 #[(.agg #[.string nm, .int .i64 ty, .int .i64 sc, .bool nu]), .string s] W (RetRdE (decC ty nu s).1 (decC ty nu s).2 W) := by
  rw [decC_bad hT hs]
  have HT := fun w => Lib.hid (cisType_any ty w)
  rw [hT] at HT
  have HC := fun w => Lib.hid (content_any s w zs)
  rw [if_neg hs] at HC
  have HB1 := Lib.hid ((Below.refl W.heap.size W).alloc (Nat.le_refl _) (.cells #[.string nm, .int .i64 ty, .int .i64 sc, .bool nu] 24))
  generalize soundN s = E at *
  have hd : ((E : Int) != 0) = true := ine_t (by omega)
  clear hT hs
  go_enter Tryz.func13, Tryz.ntmps13
  go_wp2_with fail
  (with_reducible refine (HT _).out.mono ?_); rintro e w1 ⟨rfl, hb1⟩
  go_wp2_with fail
  (with_reducible refine (HC _).out.mono ?_); rintro e w2 ⟨rfl, hb2⟩
  go_wp2
  go_ret2
  exact RetRdE.mk rfl (RdL.nil _ _) (bel_trans (bel_trans HB1.out hb1) hb2)
set_option maxRecDepth 100000 in
set_option maxHeartbeats 400000 in
theorem decG (hT : okT ty = true) (hs : soundN s = 0) : Calls Tryz.prog 13 #[(.agg #[.string nm, .int .i64 ty, .int .i64 sc, .bool nu]), .string s] W (RetRdE (decC ty nu s).1 (decC ty nu s).2 W) := by
  rw [decC_fin hT hs]
  have h5 : 5 ≤ s.size := Nat.le_of_not_lt fun h => by rw [soundN_short h] at hs; cases hs
  have HT := fun w => Lib.hid (cisType_any ty w)
  rw [hT] at HT
  have HC := fun w => Lib.hid (content_any s w zs)
  rw [if_pos hs, hs] at HC
  obtain ⟨T, hTx⟩ : ∃ T, s.extract 0 (s.size - 4) = T := ⟨_, rfl⟩
  rw [hTx] at HC ⊢
  have hTs : T.size = s.size - 4 := by rw [← hTx, ByteArray.size_extract]; omega
  have HV := fun w => Lib.hid (getVal_any ty T w hT (by omega) (by omega))
  have HCA := fun v l w h => Lib.hid (checkAll_any nm ty sc nu v l w h)
  have HB1 := Lib.hid ((Below.refl W.heap.size W).alloc (Nat.le_refl _) (.cells #[.string nm, .int .i64 ty, .int .i64 sc, .bool nu] 24))
  have HS1 := Lib.hid (show (W.alloc (.cells #[.string nm, .int .i64 ty, .int .i64 sc, .bool nu] 24)).heap.size = W.heap.size + 1 from by simp)
  have HVR := Lib.hid (Var4.new W (.string nm) (.int .i64 ty) (.int .i64 sc) (.bool nu) 24)
  generalize valD ty T = D at *
  obtain ⟨R, hR⟩ : ∃ R : List Vl × Nat, finV ty nu D = R := ⟨_, rfl⟩
  rw [hR]
  have HR := Lib.hid hR
  clear hT hs hTx hTs h5 hR
  go_enter Tryz.func13, Tryz.ntmps13
  go_wp2_with fail
  (with_reducible refine (HT _).out.mono ?_); rintro e w1 ⟨rfl, hb1⟩
  go_wp2_with fail
  (with_reducible refine (HC _).out.mono ?_); rintro e w2 ⟨rfl, hb2⟩
  have hb12 := bel_trans hb1 hb2
  obtain ⟨v0, v1, v2, v3⟩ := HVR.out.below hb12 (by rw [HS1.out]; exact Nat.lt_succ_self _)
  clear HT HC hb1 hb2
  go_wp2_with fail
  (with_reducible refine (HV _).out.mono ?_); rintro e w3 ⟨v, l, ok, rfl, hr, hd, hb3⟩
  have hb13 := bel_trans hb12 hb3
  clear hb12 hb3 v0 v1 v2 v3 HV
  rcases hd with ⟨rfl, hd⟩ | ⟨rfl, hd⟩
  · obtain ⟨v0, v1, v2, v3⟩ := HVR.out.below hb13 (by rw [HS1.out]; exact Nat.lt_succ_self _)
    have HE := Lib.hid (HCA v l w3 hr).out
    have HD := Lib.hid hd
    have HRD := Lib.hid hr
    clear hd hr HCA
    by_cases h0 : firstE ty nu l = 0
    · rw [h0] at HE
      have HR2 := Lib.hid (show R = (l, 0) by rw [← HR.out, HD.out]; exact if_pos h0)
      clear h0 HR HD
      go_wp2_with fail
      (with_reducible refine HE.out.mono ?_); rintro e w4 ⟨rfl, hb4⟩
      have hB := bel_trans (bel_trans HB1.out hb13) hb4
      have hr4 := HRD.out.step hb4
      go_wp2
      go_ret2
      rw [HR2.out]
      exact RetRdE.mk rfl hr4 hB
    · have HR2 := Lib.hid (show R = ([], 2) by rw [← HR.out, HD.out]; exact if_neg h0)
      have hd := chkE_ne h0
      generalize firstE ty nu l = E at *
      clear h0 HR HD
      go_wp2_with fail
      (with_reducible refine HE.out.mono ?_); rintro e w4 ⟨rfl, hb4⟩
      have hB := bel_trans (bel_trans HB1.out hb13) hb4
      go_wp2
      go_ret2
      rw [HR2.out]
      exact RetRdE.mk rfl (RdL.nil _ _) hB
  · have HR2 := Lib.hid (show R = ([], 2) by rw [← HR.out, hd]; rfl)
    clear hd hr HR
    have hB := bel_trans HB1.out hb13
    go_wp2
    go_ret2
    rw [HR2.out]
    exact RetRdE.mk rfl (RdL.nil _ _) hB
theorem cdecode_any : Calls Tryz.prog 13 #[(.agg #[.string nm, .int .i64 ty, .int .i64 sc, .bool nu]), .string s] W (RetRdE (decC ty nu s).1 (decC ty nu s).2 W) := by
  cases hT : okT ty with
  | false => exact decT nm ty sc nu s W hT
  | true =>
    by_cases hs : soundN s = 0
    · exact decG nm ty sc nu s W zs hT hs
    · exact decS nm ty sc nu s W zs hT hs
end
set_option maxRecDepth 100000 in
set_option maxHeartbeats 400000 in
theorem ccodec_any (s : ByteArray) (W : World) (zs : s.size ≤ 140737488351232) : Calls Tryz.prog 23 #[.string s] W (RetB (.tuple #[.int .i64 (codC s).1, .int .i64 ((codC s).2 : Nat)]) W) := by
  have HC := fun w => Lib.hid (content_any s w zs)
  by_cases hs : soundN s = 0
  · have h5 : 5 ≤ s.size := Nat.le_of_not_lt fun h => by rw [soundN_short h] at hs; cases hs
    rw [if_pos hs, hs] at HC
    obtain ⟨T, hTx⟩ : ∃ T, s.extract 0 (s.size - 4) = T := ⟨_, rfl⟩
    rw [hTx] at HC
    have hTs : T.size = s.size - 4 := by rw [← hTx, ByteArray.size_extract]; omega
    have hx0 : bN T 0 = bN s 0 := by
      rw [← hTx, extract_str, List.drop_zero, bN_str]
      unfold bN
      rw [List.getD_eq_getElem?_getD, List.getElem?_take, if_pos (by omega), List.getD_eq_getElem?_getD]
    have hcd : codC s = if bN s 0 < 1 ∨ 4 < bN s 0 then ((0 : Int), 2) else (((bN s 0 : Nat) : Int), 0) := by unfold codC; rw [if_neg (by simp [hs])]
    have hb0 := get_bN T
    have hbl := bN_lt s 0
    have hlt : (0 : Int) < (T.size : Int) := by omega
    have hlt2 : 0 < T.size := by omega
    rw [hcd]
    obtain ⟨x, hx⟩ : ∃ x, bN s 0 = x := ⟨_, rfl⟩
    rw [hx] at hbl hx0 ⊢
    have hw : wrap64 (x : Int) = (x : Int) := by unfold wrap64; omega
    have hc : x = 1 ∨ x = 2 ∨ x = 3 ∨ x = 4 ∨ (x < 1 ∨ 4 < x) := by omega
    clear hs hTx hcd hx hTs h5
    rcases hc with rfl | rfl | rfl | rfl | hc
    · rw [if_neg (by omega)]
      go_enter Tryz.func23, Tryz.ntmps23
      go_wp2_with fail
      (with_reducible refine (HC _).out.mono ?_); rintro e w1 ⟨rfl, hb1⟩
      go_wp2
      go_ret2
      exact RetB.mk rfl hb1
    · rw [if_neg (by omega)]
      go_enter Tryz.func23, Tryz.ntmps23
      go_wp2_with fail
      (with_reducible refine (HC _).out.mono ?_); rintro e w1 ⟨rfl, hb1⟩
      go_wp2
      go_ret2
      exact RetB.mk rfl hb1
    · rw [if_neg (by omega)]
      go_enter Tryz.func23, Tryz.ntmps23
      go_wp2_with fail
      (with_reducible refine (HC _).out.mono ?_); rintro e w1 ⟨rfl, hb1⟩
      go_wp2
      go_ret2
      exact RetB.mk rfl hb1
    · rw [if_neg (by omega)]
      go_enter Tryz.func23, Tryz.ntmps23
      go_wp2_with fail
      (with_reducible refine (HC _).out.mono ?_); rintro e w1 ⟨rfl, hb1⟩
      go_wp2
      go_ret2
      exact RetB.mk rfl hb1
    · rw [if_pos hc]
      have e1 : ((x : Int) == 1) = false := ieq_f (by omega)
      have e2 : ((x : Int) == 2) = false := ieq_f (by omega)
      have e3 : ((x : Int) == 3) = false := ieq_f (by omega)
      have e4 : ((x : Int) == 4) = false := ieq_f (by omega)
      clear hc
      go_enter Tryz.func23, Tryz.ntmps23
      go_wp2_with fail
      (with_reducible refine (HC _).out.mono ?_); rintro e w1 ⟨rfl, hb1⟩
      go_wp2
      go_ret2
      exact RetB.mk rfl hb1
  · have hcd : codC s = (0, soundN s) := by unfold codC; rw [if_pos hs]
    rw [if_neg hs] at HC
    rw [hcd]
    have hd := chkE_ne hs
    generalize soundN s = E at *
    clear hs hcd
    go_enter Tryz.func23, Tryz.ntmps23
    go_wp2_with fail
    (with_reducible refine (HC _).out.mono ?_); rintro e w1 ⟨rfl, hb1⟩
    go_wp2
    go_ret2
    exact RetB.mk rfl hb1
end Go.Proofs.YtbolbbngncnecaaGreat
