/- ValueTextRoundTrip: Parse(Format(v)) returns v for every valid value. Its row lists the tables of strconv and bits: a tied card. -/
import Derived.Test.YtidlemedkjkmdaaDoorValG
import Derived.Test.YtidlemedkjkmdaaDoorValD
import Derived.Test.YtidlemedkjkmdaaDoorValK
import Derived.Test.YtidlemedkjkmdaaDoorDecT2
namespace Go.VL
open Go.RowKit Go.VB Go.DT Go.DC
theorem isN_f {s : ByteArray} (h : bN s 0 ≠ 110) : isN s = false := by
  unfold isN
  refine beq_eq_false_iff_ne.2 fun e => h ?_
  rw [ByteArray.toList_eq] at e
  unfold bN; rw [e]; rfl
theorem isN_null : isN ⟨#[110, 117, 108, 108]⟩ = true := by unfold isN; rw [ByteArray.toList_eq]; rfl
theorem isTr_true : isTr ⟨#[116, 114, 117, 101]⟩ = true := by unfold isTr; rw [ByteArray.toList_eq]; rfl
theorem isTr_false : isTr ⟨#[102, 97, 108, 115, 101]⟩ = false := by unfold isTr; rw [ByteArray.toList_eq]; rfl
theorem isFa_false : isFa ⟨#[102, 97, 108, 115, 101]⟩ = true := by unfold isFa; rw [ByteArray.toList_eq]; rfl
theorem NT_ft (n : Int) : NT n = str (by8 (ft n 0)) := by
  have hw : ∀ m : Nat, dg m (max 1 (len m)) = whole m 0 ++ tail m 0 := fun m => by
    unfold whole wn tail
    rw [if_pos rfl, List.append_nil, Nat.pow_zero, Nat.div_one]
  by_cases h : n < 0
  · obtain ⟨m, rfl⟩ : ∃ m : Nat, n = -(m : Int) := ⟨n.natAbs, by omega⟩
    rw [NT_neg (by omega), hw]
    unfold ft sign
    rw [if_pos h, Int.natAbs_neg, Int.natAbs_natCast]; rfl
  · obtain ⟨m, rfl⟩ := Int.eq_ofNat_of_zero_le (by omega : 0 ≤ n)
    rw [NT_pos, hw]
    unfold ft sign
    rw [if_neg h, Int.natAbs_natCast]; rfl
theorem ft_first (n : Int) (k : Nat) : bN (str (by8 (ft n k))) 0 ≠ 110 := by
  obtain ⟨h1, h2⟩ := ft_parts n k
  by_cases h : n < 0
  · rw [decide_eq_true h] at h1
    have h3 := (of_decide_eq_true h1).2
    omega
  · rw [decide_eq_false h] at h1
    unfold body at h2
    rw [h1, if_neg (by decide)] at h2
    rw [h2, wt_first]; omega
theorem wt0 (m : Nat) : wt m 0 = str (by8 (dg m (wn m 0))) := by
  unfold wt whole tail
  rw [if_pos rfl, List.append_nil, Nat.pow_zero, Nat.div_one]
theorem wt0_vl (m : Nat) : vl (wt m 0) = m := by
  rw [wt0, vl_str _ (fun x hx => by have := dg_lt _ _ x hx; omega)]
  refine nmF_dg _ _ 0 (div_pow_zero.2 ?_).symm
  unfold wn; rw [Nat.pow_zero, Nat.div_one]; exact Nat.le_max_right _ _
theorem wt0_dec (m : Nat) : isDec (wt m 0) := by
  have hs : (wt m 0).size = wn m 0 := by rw [wt_size, tail_len0]; rfl
  have hp := wn_pos m 0
  refine ⟨by rw [wt_cd, hs], by omega, fun h => ?_⟩
  refine (wt_ok m 0).2.1 ⟨by rw [wt_cd]; omega, h.1⟩
theorem wt0_zero {m : Nat} (h : bN (wt m 0) 0 = 48) : m = 0 := by
  have hs : (wt m 0).size = wn m 0 := by rw [wt_size, tail_len0]; rfl
  have hp := wn_pos m 0
  by_cases h1 : 1 < (wt m 0).size
  · exact absurd ⟨h, h1⟩ (wt0_dec m).2.2
  · have h2 : wn m 0 = 1 := by omega
    rw [wt_first, h2] at h
    have h5 : m / 10 ^ 0 / 10 ^ (1 - 1) = m := by rw [Nat.sub_self, Nat.pow_zero, Nat.div_one, Nat.div_one]
    rw [h5] at h
    have h3 : len m ≤ 1 := by unfold wn at h2; rw [Nat.pow_zero, Nat.div_one] at h2; omega
    have h4 := (len_le m 1).2 h3
    omega
theorem read_int {n : Int} (h0 : -9223372036854775808 ≤ n) (h1 : n ≤ 9223372036854775807) : IN (NT n) = n ∧ IC (NT n) = 0 := by
  rw [NT_ft]
  obtain ⟨hg, hb⟩ := ft_parts n 0
  have hok : okI (str (by8 (ft n 0))) := by
    refine ⟨by rw [hb]; exact wt0_dec _, fun ⟨h2, h3⟩ => ?_⟩
    rw [hg] at h2
    rw [hb] at h3
    have := wt0_zero h3
    have := of_decide_eq_true h2
    omega
  have hfit : fitI (ngb (str (by8 (ft n 0)))) (vl (body (str (by8 (ft n 0))))) := by
    rw [hg, hb, wt0_vl]
    refine ⟨by omega, fun h => ?_⟩
    have := of_decide_eq_false h
    omega
  refine ⟨?_, IC_in hok hfit⟩
  rw [IN_in hok hfit, hg, hb, wt0_vl]
  have := sgn_int n 1
  rw [Nat.mul_one] at this
  rw [this]; omega
theorem hv_hc : ∀ k, k < 16 → hv (hc k) = k := by
  have h : ∀ k : Fin 16, hv (hc k.val) = k.val := by decide +kernel
  intro k hk; exact h ⟨k, hk⟩
theorem hexs_at (s : ByteArray) : ∀ (N i : Nat), i < N → bN (str (hexs s N)) (2 * i) = hc (bN s i / 16) ∧ bN (str (hexs s N)) (2 * i + 1) = hc (bN s i % 16)
  | 0, _, h => absurd h (Nat.not_lt_zero _)
  | N + 1, i, h => by
    have hl := hexs_len s N
    have hb := bN_lt s i
    by_cases hi : i < N
    · have ih := hexs_at s N i hi
      rw [bN_str, bN_str] at ih
      rw [bN_str, bN_str, hexs, List.getD_eq_getElem?_getD, List.getD_eq_getElem?_getD, List.getElem?_append_left (by omega), List.getElem?_append_left (by omega), ← List.getD_eq_getElem?_getD, ← List.getD_eq_getElem?_getD]
      exact ih
    · obtain rfl : i = N := by omega
      rw [bN_str, bN_str, hexs, List.getD_eq_getElem?_getD, List.getD_eq_getElem?_getD, List.getElem?_append_right (by omega), List.getElem?_append_right (by omega), hl, Nat.sub_self, show 2 * i + 1 - 2 * i = 1 from by omega]
      have h1 := hc_lt (k := bN s i / 16) (by omega)
      have h2 := hc_lt (k := bN s i % 16) (by omega)
      refine ⟨?_, ?_⟩
      · show (UInt8.ofNat _).toNat = _
        rw [UInt8.toNat_ofNat', Nat.mod_eq_of_lt h1]
      · show (UInt8.ofNat _).toNat = _
        rw [UInt8.toNat_ofNat', Nat.mod_eq_of_lt h2]
theorem bts_hexs (s : ByteArray) (N : Nat) (hN : N ≤ s.size) : ∀ n, n ≤ N → bts (str (hexs s N)) n = s.data.toList.take n
  | 0, _ => rfl
  | n + 1, h => by
    obtain ⟨h1, h2⟩ := hexs_at s N n (by omega)
    have hb := bN_lt s n
    have hsz : n < s.data.toList.length := by rw [size_list]; omega
    rw [bts, bts_hexs s N hN n (by omega), h1, h2, hv_hc _ (by omega), hv_hc _ (by omega), show 16 * (bN s n / 16) + bN s n % 16 = bN s n from by omega, List.take_add_one, List.getElem?_eq_getElem hsz]
    congr 1
    unfold bN
    rw [List.getD_eq_getElem?_getD, List.getElem?_eq_getElem hsz]
    show [UInt8.ofNat (s.data.toList[n].toNat)] = [s.data.toList[n]]
    rw [UInt8.ofNat_toNat]
theorem QT_size (s : ByteArray) : (QT s).size = 2 * s.size + 2 := by
  unfold QT; rw [str_size, List.length_cons, List.length_append, hexs_len]; rfl
theorem QT_inn (s : ByteArray) : inn (QT s) = str (hexs s s.size) := by
  unfold inn
  rw [QT_size]
  unfold QT
  rw [extract_str, str_toList, List.drop_one, List.tail_cons, List.take_left' (by rw [hexs_len]; omega)]
theorem QT_last (s : ByteArray) : bN (QT s) (2 * s.size + 1) = 34 := by
  unfold QT
  rw [bN_str, List.getD_eq_getElem?_getD, List.getElem?_cons_succ, List.getElem?_append_right (by rw [hexs_len]; exact Nat.le_refl _), hexs_len, Nat.sub_self]; rfl
theorem str_of (s : ByteArray) : str s.data.toList = s := rfl
theorem read_bytes {s : ByteArray} (h : s.size ≤ 64) : BS (QT s) = s ∧ BC (QT s) = 0 := by
  have hz := QT_size s
  have hq : okQ (QT s) := by
    refine ⟨by omega, by omega, rfl, by rw [hz, show 2 * s.size + 2 - 1 = 2 * s.size + 1 from by omega]; exact QT_last s, fun k hk => ?_⟩
    rw [QT_inn] at hk ⊢
    rw [str_size, hexs_len] at hk
    obtain ⟨h1, h2⟩ := hexs_at s s.size (k / 2) (by omega)
    have hb := bN_lt s (k / 2)
    by_cases hm : k % 2 = 0
    · rw [show k = 2 * (k / 2) from by omega, h1, hv_hc _ (by omega)]; omega
    · rw [show k = 2 * (k / 2) + 1 from by omega, h2, hv_hc _ (by omega)]; omega
  refine ⟨?_, BC_in hq (by omega)⟩
  rw [BS_in hq (by omega), QT_inn, hz, show (2 * s.size + 2 - 2) / 2 = s.size from by omega, bts_hexs s s.size (Nat.le_refl _) s.size (Nat.le_refl _), List.take_of_length_le (by rw [size_list]; exact Nat.le_refl _)]
  rfl
theorem read_day {n : Int} {T : ByteArray} (h : isDay n T) : pn T = n ∧ pc T = 0 ∧ bN T 0 ≠ 110 ∧ T.size ≤ 10 := by
  obtain ⟨y, m, d, hok, hn, rfl⟩ := h
  obtain ⟨y1, y2, m1, m2, d1, d2⟩ := id hok
  have hd := dim_bd (y : Int) (m : Int)
  refine ⟨?_, ?_, ?_, Nat.le_of_eq (txt_size y m d)⟩
  · rw [pn_in (txt_form y m d), txt_y y m d (by omega), txt_m y m d (by omega), txt_d y m d (by omega), dn_in hok, hn]
  · rw [pc_in (txt_form y m d), txt_y y m d (by omega), txt_m y m d (by omega), txt_d y m d (by omega), dc_in hok]
  · rw [bN_by8 _ (txt_lt y m d) 0 (by rw [txt_len]; decide), txt_cells]
    show 48 + y / 1000 % 10 ≠ 110
    omega
/-- What is written is read again. -/
theorem read_text {ty sc : Int} {nu nul : Bool} {n : Int} {s : ByteArray} (hsc : okSc ty sc = true) (hk : chk ty nu nul n s = 0) (h0 : -9223372036854775808 ≤ n) (h1 : n ≤ 9223372036854775807) :
    ∃ T : ByteArray, FR ty sc nu nul n s = .tuple #[.string T, .int .i64 0] ∧ T.size ≤ 140737488351232 ∧ prs ty sc nu T = ⟨nul, n, s, 0⟩ := by
  cases nul with
  | true =>
    refine ⟨⟨#[110, 117, 108, 108]⟩, FR_nul hsc hk, by decide, ?_⟩
    cases hT : okT ty with
    | false => rw [chk_ty hT] at hk; cases hk
    | true =>
      rw [chk_nul hT] at hk
      by_cases hz : n ≠ 0 ∨ s.size ≠ 0
      · rw [if_pos hz] at hk; cases hk
      · rw [if_neg hz] at hk
        cases nu with
        | false => cases hk
        | true =>
          obtain rfl : n = 0 := by omega
          obtain rfl := s_empty (s := s) (by omega)
          unfold prs
          rw [if_neg (by rw [hT]; decide), if_neg (by rw [hsc]; decide), if_pos isN_null]; rfl
  | false =>
    obtain ⟨hT, h3, h4, hp⟩ := chk_ok hk
    have hpr : ∀ T, isN T = false → ty ≠ 3 → prs ty sc nu T = ⟨false, numT ty sc T, ⟨#[]⟩, codT ty sc T⟩ := fun T hN h3 => by
      unfold prs
      rw [if_neg (by rw [hT]; decide), if_neg (by rw [hsc]; decide), if_neg (by rw [hN]; decide), if_neg h3]
    rw [FR_val hsc hk]
    rcases okT_five hT with rfl | rfl | rfl | rfl | rfl
    · obtain rfl := s_empty (h4 (by decide))
      obtain ⟨r1, r2⟩ := read_int h0 h1
      have hz : (NT n).size ≤ 140737488351232 := by
        rw [NT_ft, by8_size]
        have h2 := whole_len n.natAbs 0
        have h5 := sign_len n
        have h6 : len (n.natAbs / 10 ^ 0) ≤ 19 := (len_le _ 19).1 (by rw [Nat.pow_zero, Nat.div_one]; omega)
        unfold ft
        rw [List.length_append, List.length_append, tail_len0]
        unfold wn at h2
        omega
      refine ⟨_, rfl, hz, ?_⟩
      rw [hpr _ (isN_f (by show bN (NT n) 0 ≠ 110; rw [NT_ft]; exact ft_first n 0)) (by decide)]
      show PR.mk false (IN (NT n)) _ (IC (NT n)) = _
      rw [r1, r2]
    · obtain rfl := s_empty (h4 (by decide))
      have hb : n = 0 ∨ n = 1 := of_decide_eq_true hp
      rcases hb with rfl | rfl
      · refine ⟨⟨#[102, 97, 108, 115, 101]⟩, rfl, by decide, ?_⟩
        rw [hpr _ (isN_f (by decide)) (by decide)]
        have e1 : numT 2 sc ⟨#[102, 97, 108, 115, 101]⟩ = 0 := by unfold numT; rw [if_pos rfl, isTr_false]; rfl
        have e2 : codT 2 sc ⟨#[102, 97, 108, 115, 101]⟩ = 0 := by unfold codT; rw [if_pos rfl, isTr_false, isFa_false]; rfl
        rw [e1, e2]
      · refine ⟨⟨#[116, 114, 117, 101]⟩, rfl, by decide, ?_⟩
        rw [hpr _ (isN_f (by decide)) (by decide)]
        have e1 : numT 2 sc ⟨#[116, 114, 117, 101]⟩ = 1 := by unfold numT; rw [if_pos rfl, isTr_true]; rfl
        have e2 : codT 2 sc ⟨#[116, 114, 117, 101]⟩ = 0 := by unfold codT; rw [if_pos rfl, isTr_true]; rfl
        rw [e1, e2]
    · have hs : s.size ≤ 64 := of_decide_eq_true hp
      obtain rfl := h3 rfl
      obtain ⟨r1, r2⟩ := read_bytes hs
      refine ⟨QT s, rfl, by rw [QT_size]; omega, ?_⟩
      unfold prs
      rw [if_neg (by rw [hT]; decide), if_neg (by rw [hsc]; decide), if_neg (by rw [isN_f (s := QT s) (by show (34 : Nat) ≠ 110; decide)]; decide), if_pos rfl, r1, r2]
    · obtain rfl := s_empty (h4 (by decide))
      have hs : -719162 ≤ n ∧ n ≤ 2932896 := of_decide_eq_true hp
      obtain ⟨r1, r2, r3, r4⟩ := read_day (DX_day hs.1 hs.2)
      refine ⟨DX n, rfl, by omega, ?_⟩
      rw [hpr _ (isN_f r3) (by decide)]
      show PR.mk false (pn (DX n)) _ (pc (DX n)) = _
      rw [r1, r2]
    · obtain rfl := s_empty (h4 (by decide))
      have hs : -999999999999999999 ≤ n ∧ n ≤ 999999999999999999 := of_decide_eq_true hp
      have hs2 : 0 ≤ sc ∧ sc ≤ 18 := by
        rcases of_decide_eq_true hsc with h | h
        · exact absurd rfl h
        · exact h
      obtain ⟨k, rfl⟩ := Int.eq_ofNat_of_zero_le hs2.1
      obtain ⟨r1, r2⟩ := read_same hs k (by omega)
      have e : FN n (k : Int) = str (by8 (ft n k)) := by rw [FN_in ⟨hs, hs2⟩, Int.toNat_natCast]
      refine ⟨FN n (k : Int), rfl, ?_, ?_⟩
      · rw [e, by8_size]
        have := ft_len (n := n) (k := k) (by omega) (by omega)
        omega
      · rw [hpr _ (isN_f (by rw [e]; exact ft_first n k)) (by decide)]
        show PR.mk false (PN (FN n (k : Int)) (k : Int)) _ (PC (FN n (k : Int)) (k : Int)) = _
        rw [e, r1, r2]
end Go.VL
namespace Go.Proofs.YtidlemedkjkmdaaDoor
open Go.RowKit Go.VB Go.VL Go.ChangeShapes Go.WideShapes Go.ChangeAt
open Go.ChangeMaps (open_string)
set_option linter.constructorNameAsVariable false
set_option maxRecDepth 100000 in
set_option maxHeartbeats 8000000 in
theorem textround_walk (t k : Int) (null : Bool) (v3 : Value) (zl : List Int) (W : World) (wt : (Lit.int .i64 t).wf = true) (wk : (Lit.int .i64 k).wf = true)
    (rl : RdI .i64 W W.heap.size v3 zl) (wl : ∀ z ∈ zl, (Lit.int .i64 z).wf = true) (ht : TabOk W) :
    Calls Tryd.prog 5 #[.int .i64 t, .int .i64 k, .bool null, v3] W (RetB (.bool true) W) := by
  have HCC := fun w => Lib.hid (col_any t k null w wt wk)
  have hct := ctyp_bd t
  have hSC : okSc (ctyp t) (cscale t k) = true := decide_eq_true (.inr (cscale_bd t k))
  have hAw := fun w => Lib.hid (awakeV_any w)
  generalize ctyp t = dty at *
  generalize cscale t k = dsc at *
  have HKV := fun (w : World) (hB : Below W.heap.size W w) => Lib.hid (kValue_any w v3 zl xs dty dsc null ((rl.below hB).more hB.size) wl hct)
  generalize xs = X at *
  have HT := fun (w : World) (hB : Below W.heap.size W w) => Lib.hid (ht.step hB)
  clear wt wk rl wl ht hct
  go_enter Tryd.func5, Tryd.ntmps5
  go_wp2_with fail
  refine (HCC _).out.mono ?_
  rintro e w1 ⟨rfl, hB⟩
  have hVd := Var4.new w1 (.string X) (.int .i64 dty) (.int .i64 dsc) (.bool null) 26
  have hb2 := (Below.refl w1.heap.size w1).alloc (Nat.le_refl _) (.cells #[.string X, .int .i64 dty, .int .i64 dsc, .bool null] 26)
  replace hB := bel_trans hB hb2
  clear hb2 HCC
  go_wp2_with fail
  refine (HKV _ hB).out.mono ?_
  rintro e w3 ⟨xb, xn, xt, rfl, hp, hb3⟩
  replace hVd := hVd.step hb3
  replace hB := bel_trans hB hb3
  clear hb3 HKV
  have hVx := Var3.new w3 (.bool xb) (.int .i64 xn) (.string xt) 28
  have hb4 := (Below.refl w3.heap.size w3).alloc (Nat.le_refl _) (.cells #[.bool xb, .int .i64 xn, .string xt] 28)
  replace hVd := hVd.step hb4
  replace hB := bel_trans hB hb4
  clear hb4
  obtain ⟨⟨hck, hwx, _⟩, hnn⟩ := hp
  have hck2 : chk dty null xb xn xt = 0 := by
    cases xb with
    | true => rw [hnn rfl]; exact hck
    | false =>
      obtain ⟨q1, q2, q3, q4⟩ := chk_ok hck
      rw [chk_val q1, if_neg (fun h => by rcases h with h | h; exact h.2 (q2 h.1); exact h.2 (q3 h.1)), if_pos q4]
  obtain ⟨b1, b2⟩ := bounds_i64 hwx
  obtain ⟨T, hFR, hTz, hPR⟩ := read_text hSC hck2 b1 b2
  have H1 := fun (w : World) (hb : Below W.heap.size W w) => Lib.hid (vFormat_any X dty dsc null xb xn xt w hwx (HT w hb).out)
  rw [hFR] at H1
  have H2 := fun (w : World) => Lib.hid (vParse_any X dty dsc null T w hTz)
  rw [hPR, show (PR.mk xb xn xt 0).val = .tuple #[.agg #[.bool xb, .int .i64 xn, .string xt], .int .i64 0] from rfl] at H2
  clear hck hck2 hnn hwx hFR hPR hTz b1 b2 HT hSC
  have hV := fun (w : World) (hb : Below (w3.alloc (.cells #[.bool xb, .int .i64 xn, .string xt] 28)).heap.size (w3.alloc (.cells #[.bool xb, .int .i64 xn, .string xt] 28)) w) =>
    Lib.hid (And.intro (bel_trans hB hb) (And.intro (hVd.step hb) (hVx.step hb)))
  obtain ⟨d0, d1, d2, d3⟩ := hVd
  obtain ⟨x0, x1, x2, _, _, _⟩ := hVx
  clear hB
  go_wp2_with fail
  clear d0 d1 d2 d3 x0 x1 x2
  generalize w1.heap.size = db at *
  generalize w3.heap.size = xa at *
  generalize w3.alloc (.cells #[.bool xb, .int .i64 xn, .string xt] 28) = w4 at *
  have hcur : Below w4.heap.size w4 w4 := Below.refl _ _
  have hB := (hV _ hcur).out.1
  refine (H1 _ hB).out.mono ?_
  rintro e u1 ⟨rfl, hb⟩
  replace hcur := bel_trans hcur hb
  clear hb hB H1
  obtain ⟨_, ⟨d0, d1, d2, d3⟩, ⟨x0, x1, x2, _, _, _⟩⟩ := (hV _ hcur).out
  go_wp2_with fail
  clear d0 d1 d2 d3 x0 x1 x2
  refine (H2 _).out.mono ?_
  rintro e u2 ⟨rfl, hb⟩
  replace hcur := bel_trans hcur hb
  clear hb H2
  have hVy := Var3.new u2 (.bool xb) (.int .i64 xn) (.string xt) 28
  have hb5 := (Below.refl u2.heap.size u2).alloc (Nat.le_refl _) (.cells #[.bool xb, .int .i64 xn, .string xt] 28)
  replace hcur := bel_trans hcur hb5
  clear hb5
  go_wp2_with fail
  generalize u2.heap.size = yb at *
  generalize u2.alloc (.cells #[.bool xb, .int .i64 xn, .string xt] 28) = w5 at *
  refine (hAw _).out.mono ?_
  rintro e u7 ⟨rfl, hb⟩
  replace hVy := hVy.step hb
  replace hcur := bel_trans hcur hb
  obtain ⟨hB, _, ⟨x0, x1, x2, _, _, _⟩⟩ := (hV _ hcur).out
  obtain ⟨y0, y1, y2, _, _, _⟩ := hVy
  clear hV hcur hb hAw
  go_wp2
  go_ret
  exact RetB.mk rfl hB
set_option maxRecDepth 100000 in
set_option maxHeartbeats 4000000 in
theorem valueTextRoundTrip_lifted (os : Os) (started : os.Started) (H : Type) (enc : TypeId × Value → H) :
    ReturnsInHanded {} Tryd.checked os 5 .any (fun w args => (Rows.valueTextRoundTripSpec.pre enc Tryd.prog Tryd.f5 Rows.valueTextRoundTripRow.domain false w args ∧ laidMetH Tryd.prog Rows.valueTextRoundTripRow.laid w) ∧ sizedMet enc Tryd.prog Tryd.f5 (OpenSpec.ofChange Rows.valueTextRoundTripSpec) false w args) (Rows.valueTextRoundTripSpec.post enc Tryd.prog Tryd.f5 false true false false) := by
  refine laid_lifted (C := Tryd.checked) (tb := 4) (laid := Rows.valueTextRoundTripRow.laid) started Tryd.own Tryd.laidOut (by kernel_rfl) Tryd.func5
    (ChangeSpec.witness_shaped (enc := enc) (C := Tryd.checked) (os := os) (X := fun w _ => laidMetH Tryd.prog Rows.valueTextRoundTripRow.laid w) false (World.laidAll Tryd.prog os Rows.valueTextRoundTripRow.laid) #[.int .i64 0, .int .i64 0, .bool false, .slice none 0 0] 8 (World.laidAll_os _ _ _) (World.shaped_of_ZipB (by kernel_rfl) (by kernel_rfl)) (by kernel_rfl) (by kernel_rfl) (by kernel_rfl) (by rw [MakeChecks.laidMetH_plain _ _ _ (by kernel_rfl)]; exact laidMet_laidAll _ (by kernel_rfl) (by kernel_rfl)))
    rfl rfl Tryd.underlying4 (by kernel_rfl) (fun ds h => ?_) (fun W base args ds p hval0 hA0 hsz0 hlt hL => ?_)
  · have h' : ds.length = Tryd.f5.params.toList.length := h
    rw [Tryd.params5] at h'
    match ds, h' with
    | [_, _, _, _], _ => rfl
  · have hval : ∀ (j : Nat) t v, Tryd.f5.params[j]? = some t → args[j]? = some v → Value.okWide Tryd.prog W .any base t v := hval0
    have hA : DataW.TrodAll enc Tryd.prog W 0 (fun _ => true) true Tryd.f5.params.toList args.toList ds p := hA0
    have hsz : (DataW.weightsEach Tryd.prog Tryd.f5.params.toList ds).all (· ≤ reachBytes) = true := hsz0
    rw [Tryd.params5] at hA hval hsz
    clear hA0 hval0 hsz0
    have ht : TabOk W := tab_of_laid hL
    clear hL
    obtain ⟨v0, vs0, d0, ds0, p0, q0, hargs, rfl, rfl, h0, r0⟩ := trodAll_cons hA
    obtain ⟨v1, vs1, d1, ds1, p1, q1, rfl, rfl, rfl, h1, r1⟩ := trodAll_cons r0
    obtain ⟨v2, vs2, d2, ds2, p2, q2, rfl, rfl, rfl, h2, r2⟩ := trodAll_cons r1
    obtain ⟨v3, vs3, d3, ds3, p3, q3, rfl, rfl, rfl, h3, r3⟩ := trodAll_cons r2
    obtain ⟨rfl, rfl, rfl⟩ := trodAll_nil r3
    obtain rfl : args = #[v0, v1, v2, v3] := by cases args; simp_all
    obtain ⟨t, rfl, rfl, rfl, wt⟩ := open_int Tryd.underlying3 (hval 0 3 v0 rfl rfl) h0
    obtain ⟨k, rfl, rfl, rfl, wk⟩ := open_int Tryd.underlying3 (hval 1 3 v1 rfl rfl) h1
    obtain ⟨null, rfl, rfl, rfl⟩ := open_bool Tryd.underlying4 (hval 2 4 v2 rfl rfl) h2
    obtain ⟨zl, rl, wl, bl⟩ := open_rdI Tryd.underlying31 Tryd.underlying3 (by kernel_rfl) (hval 3 31 v3 rfl rfl) h3 hsz (j := 3) rfl rfl
    change Calls Tryd.prog 5 #[.int .i64 t, .int .i64 k, .bool null, v3] W (RetB (.bool true) W)
    exact textround_walk t k null v3 zl W wt wk rl wl ht
theorem valueTextRoundTrip_holds : Rows.ValueTextRoundTripSaid :=
  OpenClaim.holds_of_wide 5 Tryd.f5 rfl rfl rfl rfl rfl rfl rfl ⟨rfl, rfl, rfl, rfl, rfl⟩ rfl rfl rfl rfl rfl (by kernel_rfl) Tryd.func5 (by kernel_rfl)
    (of_decide_eq_true (by kernel_rfl)) (by unfold Func.isWrapper; first | (rw [if_pos (by decide +kernel)]; kernel_rfl) | (rw [if_neg (by decide +kernel)]; exact ⟨rfl, rfl⟩))
    (fun os started H enc _ => valueTextRoundTrip_lifted os started H enc)
theorem valueTextRoundTrip_card : Rows.ValueTextRoundTripCardSaid :=
  Claim7.holds_tied_plain_at .later [] [.data, .data, .data] true Rows.valueTextRoundTripCard.stood.harness false valueTextRoundTrip_holds (fun _ h => by cases h) (by kernel_rfl) (fun _ h => by cases h) valueTextRoundTrip_row_tie rfl ⟨rfl, rfl⟩ (by kernel_rfl) rfl
    (fun f fn hf hfn => by
      obtain rfl : f = 5 := Option.some.inj ((show Tryd.prog.funcNamed Rows.valueTextRoundTripRow.func = some 5 by kernel_rfl).symm.trans hf) |>.symm
      obtain rfl : fn = Tryd.f5 := (Option.some.inj (Tryd.func5.symm.trans hfn)).symm
      exact ⟨by kernel_rfl, fun j t ht => by
        rw [Tryd.params5] at ht
        have hm : t ∈ [3, 3, 4, 31] := by simpa using Array.mem_of_getElem? ht
        have hall : ([3, 3, 4, 31].all fun u => !Tryd.prog.wantsStandIn u) = true := by kernel_rfl
        exact (show Tryd.prog.wantsStandIn t = false by simpa using List.all_eq_true.1 hall t hm)⟩)
    (by kernel_rfl)
end Go.Proofs.YtidlemedkjkmdaaDoor
