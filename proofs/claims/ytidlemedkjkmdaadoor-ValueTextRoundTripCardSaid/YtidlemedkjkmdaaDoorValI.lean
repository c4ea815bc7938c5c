/- The walks over package value's parseInt and the reference's ReadNumber. -/
import Derived.Test.YtidlemedkjkmdaaDoorDecW5
import Derived.Test.YtidlemedkjkmdaaDoorValW8
namespace Go.VL
open Go.RowKit Go.VB Go.DT Go.DC
/-- Digits without a zero at the head, but for a single one. -/
def isDec (t : ByteArray) : Prop := cd t = t.size ∧ t.size ≠ 0 ∧ ¬ (bN t 0 = 48 ∧ 1 < t.size)
instance (t : ByteArray) : Decidable (isDec t) := by unfold isDec; infer_instance
def okI (s : ByteArray) : Prop := isDec (body s) ∧ ¬ (ngb s = true ∧ bN (body s) 0 = 48)
instance (s : ByteArray) : Decidable (okI s) := by unfold okI; infer_instance
def fitI (b : Bool) (v : Nat) : Prop := v ≤ 9223372036854775808 ∧ (b = false → v ≠ 9223372036854775808)
instance (b : Bool) (v : Nat) : Decidable (fitI b v) := by unfold fitI; infer_instance
/-- The number that a text denotes, and the code. -/
def IN (s : ByteArray) : Int := if okI s ∧ fitI (ngb s) (vl (body s)) then sgn (ngb s) (vl (body s)) else 0
def IC (s : ByteArray) : Nat := if okI s then (if fitI (ngb s) (vl (body s)) then 0 else 8) else 2
theorem IN_form {s : ByteArray} (h : ¬ okI s) : IN s = 0 := if_neg fun hk => h hk.1
theorem IC_form {s : ByteArray} (h : ¬ okI s) : IC s = 2 := if_neg h
theorem IN_over {s : ByteArray} (h : ¬ fitI (ngb s) (vl (body s))) : IN s = 0 := if_neg fun hk => h hk.2
theorem IC_over {s : ByteArray} (h : okI s) (h2 : ¬ fitI (ngb s) (vl (body s))) : IC s = 8 := by unfold IC; rw [if_pos h, if_neg h2]
theorem IN_in {s : ByteArray} (h : okI s) (h2 : fitI (ngb s) (vl (body s))) : IN s = sgn (ngb s) (vl (body s)) := if_pos ⟨h, h2⟩
theorem IC_in {s : ByteArray} (h : okI s) (h2 : fitI (ngb s) (vl (body s))) : IC s = 0 := by unfold IC; rw [if_pos h, if_pos h2]
/-- What negativeOf returns. -/
def ngN (s : ByteArray) : Int := if vl s ≤ 9223372036854775808 then -(vl s : Int) else 0
theorem text48 (s : ByteArray) : (s.toList == [48]) = decide (s.size = 1 ∧ bN s 0 = 48) := by
  rw [Bool.eq_iff_iff, beq_iff_eq, decide_eq_true_iff, ByteArray.toList_eq]
  constructor
  · intro h
    have h1 := congrArg List.length h
    rw [size_list] at h1
    refine ⟨h1, ?_⟩
    unfold bN; rw [h]; rfl
  · rintro ⟨h1, h2⟩
    have hl : s.data.toList.length = 1 := by rw [size_list]; exact h1
    match hm : s.data.toList, hl with
    | [c], _ =>
      unfold bN at h2
      rw [hm] at h2
      congr 1
      exact UInt8.toNat_inj.1 h2
theorem all_dig {t : ByteArray} (h : cd t = t.size) : ∀ k, k < t.size → dig (bN t k) := fun k hk => cd_dig t (by rw [h]; exact hk)
theorem over_of {t : ByteArray} {j : Nat} (h : j < t.size) (h2 : 9223372036854775808 < nm t 0 j * 10 + (bN t j - 48)) : 9223372036854775808 < vl t := by
  have h1 := nm_grow t (j + 1) (t.size - (j + 1)) (by omega)
  rw [show j + 1 + (t.size - (j + 1)) = t.size from by omega, nm_succ t 0 j (by omega), Nat.zero_add] at h1
  have h3 : 1 ≤ 10 ^ (t.size - (j + 1)) := Nat.pow_pos (by decide)
  have h4 := Nat.mul_le_mul_left (nm t 0 j * 10 + (bN t j - 48)) h3
  unfold vl
  omega
theorem long_over {t : ByteArray} (h : isDec t) (hl : 19 < t.size) : 9223372036854775808 < vl t := by
  have hd := all_dig h.1 0 (by omega)
  have h0 : ¬ bN t 0 = 48 := fun e => h.2.2 ⟨e, by omega⟩
  have h1 := vl_head (by omega) hd h0
  have h2 : 10 ^ 19 ≤ 10 ^ (t.size - 1) := Nat.pow_le_pow_right (by decide) (by omega)
  have h3 : (10 : Nat) ^ 19 = 10000000000000000000 := by decide
  omega
end Go.VL
namespace Go.Proofs.YtidlemedkjkmdaaDoor
open Go.RowKit Go.VB Go.VL Go.DT Go.DC
set_option maxRecDepth 100000 in
set_option maxHeartbeats 2000000 in
theorem isDec_any (s : ByteArray) (w : World) (zs : s.size ≤ 140737488351232) : Calls Tryd.prog 70 #[.string s] w (Ret (.bool (decide (isDec s))) w) := by
  have hb := get_bN s
  have h48 := text48 s
  go_enter Tryd.func70, Tryd.ntmps70
  go_wp2
  go_loop [6] (fun i => ∃ j : Nat, i = .int .i64 j ∧ j ≤ s.size ∧ ∀ k, k < j → dig (bN s k)) (fun i => s.size - (intOf i).toNat)
  case atStart => exact ⟨0, rfl, Nat.zero_le _, none_below⟩
  case round =>
    obtain ⟨j, rfl, hj, hf⟩ := hrel
    have HF := Lib.hid hf; clear hf
    by_cases hlt : j < s.size
    · have hix := bN_lt s j
      have HE := fun (h : ¬ dig (bN s j)) => Lib.hid (show decide (isDec s) = false from decide_eq_false fun hd => h (all_dig hd.1 j hlt))
      have HN := fun h => Lib.hid (snoc (p := fun k => dig (bN s k)) (j := j) HF.out h)
      have hgj := hb j
      clear h48
      generalize hV : bN s j = V at *
      have HV := Lib.hid hV
      by_cases h1 : V < 48
      · have he := HE (not_dig_lo h1)
        clear HE HN
        go_wp2
        go_ret
        exact Ret.mk (congrArg Value.bool (by rw [he.out]))
      by_cases h2 : 57 < V
      · have he := HE (not_dig_hi h2)
        clear HE HN
        go_wp2
        go_ret
        exact Ret.mk (congrArg Value.bool (by rw [he.out]))
      have he := HN (is_dig h1 h2)
      clear HE HN
      go_wp2
      go_round
      case rel => exact ⟨j + 1, by go_num, hlt, he.out⟩
      case measure => simp [intOf] <;> omega
    · have hc : cd s = s.size := cd_eq (Nat.le_refl _) (fun k hk => HF.out k (by omega)) (.inl rfl)
      by_cases h0 : s.size = 0
      · have hD : decide (isDec s) = false := decide_eq_false fun h => h.2.1 h0
        have HD := Lib.hid hD
        obtain rfl := s_empty h0
        clear hD hc HF h48
        go_wp2
        go_ret
        exact Ret.mk (congrArg Value.bool (by rw [HD.out]))
      · have hne := s_full h0
        have hb0 := hb 0
        have hbl := bN_lt s 0
        have hz : 0 < s.size := by omega
        by_cases h8 : bN s 0 = 48
        · by_cases h1 : s.size = 1
          · have hD : decide (isDec s) = true := decide_eq_true ⟨hc, h0, fun h => by omega⟩
            rw [decide_eq_true ⟨h1, h8⟩] at h48
            have HD := Lib.hid hD
            clear hD hc HF h8 h1 hb
            generalize bN s 0 = V at *
            go_wp2
            go_ret
            exact Ret.mk (congrArg Value.bool (by rw [HD.out]))
          · have hD : decide (isDec s) = false := decide_eq_false fun h => h.2.2 ⟨h8, by omega⟩
            rw [decide_eq_false (fun h => h1 h.1)] at h48
            have HD := Lib.hid hD
            have hd : ((bN s 0 : Int) != 48) = false := ine_f (by omega)
            clear hD hc HF h8 h1 hb
            generalize bN s 0 = V at *
            go_wp2
            go_ret
            exact Ret.mk (congrArg Value.bool (by rw [HD.out]))
        · have hD : decide (isDec s) = true := decide_eq_true ⟨hc, h0, fun h => h8 h.1⟩
          rw [decide_eq_false (fun h => h8 h.2)] at h48
          have HD := Lib.hid hD
          have hd : ((bN s 0 : Int) != 48) = true := ine_t (by omega)
          clear hD hc HF h8 hb
          generalize bN s 0 = V at *
          go_wp2
          go_ret
          exact Ret.mk (congrArg Value.bool (by rw [HD.out]))
set_option maxRecDepth 100000 in
set_option maxHeartbeats 2000000 in
theorem negOf_any (s : ByteArray) (w : World) (zs : s.size ≤ 140737488351232) (hd : ∀ k, k < s.size → dig (bN s k)) :
    Calls Tryd.prog 71 #[.string s] w (Ret (.tuple #[.int .i64 (ngN s), .bool (decide (vl s ≤ 9223372036854775808))]) w) := by
  have hb := get_bN s
  have HD := Lib.hid hd; clear hd
  go_enter Tryd.func71, Tryd.ntmps71
  go_wp2
  go_loop [2, 8] (fun n i => ∃ j : Nat, n = .int .i64 (-(nm s 0 j : Int)) ∧ i = .int .i64 j ∧ j ≤ s.size ∧ nm s 0 j ≤ 9223372036854775808) (fun _ i => s.size - (intOf i).toNat)
  case atStart => exact ⟨0, rfl, rfl, Nat.zero_le _, Nat.zero_le _⟩
  case round =>
    obtain ⟨j, rfl, rfl, hj, hle⟩ := hrel
    by_cases hlt : j < s.size
    · have hix := HD.out j hlt
      unfold dig at hix
      have hs := nm_succ s 0 j (by omega)
      rw [Nat.zero_add] at hs
      have HB := fun h => Lib.hid (over_of (t := s) hlt h)
      have hgj := hb j
      generalize hV : bN s j = V at *
      generalize nm s 0 j = x at *
      clear hb
      have hq : (-9223372036854775808 + ((V : Int) - 48)).tdiv 10 = -((9223372036854775808 - ((V : Int) - 48)) / 10) := by
        rw [show -9223372036854775808 + ((V : Int) - 48) = -(9223372036854775808 - ((V : Int) - 48)) from by omega, Int.neg_tdiv, Int.tdiv_eq_ediv_of_nonneg (by omega)]
      have hqb : -922337203685477580 ≤ (-9223372036854775808 + ((V : Int) - 48)).tdiv 10 ∧ (-9223372036854775808 + ((V : Int) - 48)).tdiv 10 ≤ -922337203685477579 := by omega
      by_cases h1 : 9223372036854775808 < x * 10 + (V - 48)
      · have hbig := HB h1
        have hd : (-(x : Int)) < (-9223372036854775808 + ((V : Int) - 48)).tdiv 10 := by omega
        have HN := Lib.hid (show ngN s = 0 from if_neg (by have := hbig.out; omega))
        have HF := Lib.hid (show decide (vl s ≤ 9223372036854775808) = false from decide_eq_false (by have := hbig.out; omega))
        have hdd := decide_eq_true hd
        clear HB hbig hq hs hqb hd
        go_wp2
        go_ret2
        exact Ret.mk (by rw [HN.out, HF.out]; rfl)
      · have HS := Lib.hid hs
        have hd : ¬ (-(x : Int)) < (-9223372036854775808 + ((V : Int) - 48)).tdiv 10 := by omega
        have hdd := decide_eq_false hd
        have hx9 : x * 10 + (V - 48) ≤ 9223372036854775808 := by omega
        clear HB hs hq hqb hd h1
        go_wp2
        go_round
        case rel => exact ⟨j + 1, by rw [HS.out]; go_num, by go_num, hlt, by rw [HS.out]; omega⟩
        case measure => simp [intOf] <;> omega
    · have hj2 : j = s.size := by omega
      have hv : vl s = nm s 0 j := by rw [hj2]; rfl
      have HN := Lib.hid (show ngN s = -(nm s 0 j : Int) from by unfold ngN; rw [hv, if_pos hle])
      have HF := Lib.hid (show decide (vl s ≤ 9223372036854775808) = true from decide_eq_true (by rw [hv]; exact hle))
      clear hj2 hv
      generalize nm s 0 j = x at *
      go_wp2
      go_ret2
      exact Ret.mk (by rw [HN.out, HF.out]; rfl)
set_option maxRecDepth 100000 in
set_option maxHeartbeats 4000000 in
theorem pInt_any (s : ByteArray) (w : World) (zs : s.size ≤ 140737488351232) : Calls Tryd.prog 54 #[.string s] w (Ret (.tuple #[.int .i64 (IN s), .int .i64 (IC s : Nat)]) w) := by
  have hb := get_bN s 0
  have hbl := bN_lt s 0
  have key : ∀ (t : ByteArray) (b : Bool), t.size ≤ 140737488351232 → ngb s = b → body s = t → (b = true → 1 ≤ s.size ∧ bN s 0 = 45 ∧ t = s.extract 1 s.size) → (b = false → s.size = 0 ∨ ¬ bN s 0 = 45) → (b = false → t = s) →
      Calls Tryd.prog 54 #[.string s] w (Ret (.tuple #[.int .i64 (IN s), .int .i64 (IC s : Nat)]) w) := by
    intro t b zt hnb hbd hT hF hFt
    have HD := fun w => Lib.hid (isDec_any t w zt)
    have h48 := text48 t
    have hok : okI s ↔ (isDec t ∧ ¬ (b = true ∧ bN t 0 = 48)) := by unfold okI; rw [hbd, hnb]
    have hfit : fitI (ngb s) (vl (body s)) ↔ (vl t ≤ 9223372036854775808 ∧ (b = false → vl t ≠ 9223372036854775808)) := by rw [hbd, hnb]; exact Iff.rfl
    have hin := fun h h2 => IN_in (s := s) h h2
    rw [hbd, hnb] at hin
    clear hbd hnb
    by_cases hD : isDec t
    · rw [decide_eq_true hD] at HD
      have HN := fun w => Lib.hid (negOf_any t w zt (all_dig hD.1))
      have hz1 : ¬ t.size = 0 := hD.2.1
      have h49 : (t.toList == [48]) = decide (bN t 0 = 48) := by
        rw [h48, Bool.eq_iff_iff, decide_eq_true_iff, decide_eq_true_iff]
        exact ⟨fun h => h.2, fun h => ⟨by have := hD.2.2; omega, h⟩⟩
      clear h48
      by_cases hz : b = true ∧ bN t 0 = 48
      · have hno : ¬ okI s := fun h => (hok.1 h).2 hz
        obtain ⟨rfl, hz⟩ := hz
        obtain ⟨hs1, hs2, rfl⟩ := hT rfl
        have HI := Lib.hid (IN_form hno)
        have HC := Lib.hid (IC_form hno)
        rw [decide_eq_true hz] at h49
        have hne := s_full (s := s) (by omega)
        clear hok hfit hin hD HN hz hno hT hF hFt hz1
        generalize bN s 0 = V at *
        go_enter Tryd.func54, Tryd.ntmps54
        go_wp2_with (go_at_call 70; refine (HD _).out.mono ?_; rintro e w' ⟨rfl, rfl⟩)
        go_ret2
        exact Ret.mk (by rw [HI.out, HC.out]; rfl)
      · have hyes : okI s := hok.2 ⟨hD, hz⟩
        by_cases hf : vl t ≤ 9223372036854775808 ∧ (b = false → vl t ≠ 9223372036854775808)
        · have HI := Lib.hid (hin hyes hf)
          have HC := Lib.hid (IC_in hyes (hfit.2 hf))
          have hn : ngN t = -(vl t : Int) := if_pos hf.1
          rw [hn, decide_eq_true hf.1] at HN
          obtain ⟨hf1, hf2⟩ := hf
          clear hok hfit hin hD hyes hn
          generalize vl t = v at *
          cases b
          · obtain rfl := hFt rfl
            have hv := hf2 rfl
            have hv2 : ((-(v : Int)) == -9223372036854775808) = false := ieq_f (by omega)
            have hs0 := hF rfl
            clear hT hF hFt hz hf2 h49
            have hne := s_full (s := t) hz1
            have hd45 : ((bN t 0 : Int) == 45) = false := ieq_f (by omega)
            clear hs0
            generalize bN t 0 = V at *
            go_enter Tryd.func54, Tryd.ntmps54
            go_wp2_with (first | (go_at_call 70; refine (HD _).out.mono ?_; rintro e w' ⟨rfl, rfl⟩) | (go_at_call 71; refine (HN _).out.mono ?_; rintro e w' ⟨rfl, rfl⟩))
            go_ret2
            exact Ret.mk (by rw [HI.out, HC.out]; simp [sgn])
          · obtain ⟨hs1, hs2, rfl⟩ := hT rfl
            have hz' : ¬ bN (s.extract 1 s.size) 0 = 48 := fun h => hz ⟨rfl, h⟩
            rw [decide_eq_false hz'] at h49
            have hne := s_full (s := s) (by omega)
            clear hT hF hFt hz hz' hf2
            generalize bN s 0 = V at *
            go_enter Tryd.func54, Tryd.ntmps54
            go_wp2_with (first | (go_at_call 70; refine (HD _).out.mono ?_; rintro e w' ⟨rfl, rfl⟩) | (go_at_call 71; refine (HN _).out.mono ?_; rintro e w' ⟨rfl, rfl⟩))
            go_ret2
            exact Ret.mk (by rw [HI.out, HC.out]; simp [sgn])
        · have hno : ¬ fitI (ngb s) (vl (body s)) := fun h => hf (hfit.1 h)
          have HI := Lib.hid (IN_over hno)
          have HC := Lib.hid (IC_over hyes hno)
          clear hok hfit hin hD hyes hno
          cases b
          · obtain rfl := hFt rfl
            have hs0 := hF rfl
            have hne := s_full (s := t) hz1
            have hd45 : ((bN t 0 : Int) == 45) = false := ieq_f (by omega)
            clear hT hF hFt hz h49 hs0
            by_cases hv : vl t ≤ 9223372036854775808
            · have hv2 : vl t = 9223372036854775808 := Decidable.byContradiction fun h => hf ⟨hv, fun _ => h⟩
              have hn : ngN t = -9223372036854775808 := by unfold ngN; rw [if_pos hv, hv2]; rfl
              rw [hn, decide_eq_true hv] at HN
              clear hn hv hv2 hf
              generalize bN t 0 = V at *
              go_enter Tryd.func54, Tryd.ntmps54
              go_wp2_with (first | (go_at_call 70; refine (HD _).out.mono ?_; rintro e w' ⟨rfl, rfl⟩) | (go_at_call 71; refine (HN _).out.mono ?_; rintro e w' ⟨rfl, rfl⟩))
              go_ret2
              exact Ret.mk (by rw [HI.out, HC.out]; rfl)
            · rw [decide_eq_false hv] at HN
              clear hv hf
              generalize ngN t = x at *
              generalize bN t 0 = V at *
              go_enter Tryd.func54, Tryd.ntmps54
              go_wp2_with (first | (go_at_call 70; refine (HD _).out.mono ?_; rintro e w' ⟨rfl, rfl⟩) | (go_at_call 71; refine (HN _).out.mono ?_; rintro e w' ⟨rfl, rfl⟩))
              go_ret2
              exact Ret.mk (by rw [HI.out, HC.out]; rfl)
          · obtain ⟨hs1, hs2, rfl⟩ := hT rfl
            have hz' : ¬ bN (s.extract 1 s.size) 0 = 48 := fun h => hz ⟨rfl, h⟩
            rw [decide_eq_false hz'] at h49
            have hv : ¬ vl (s.extract 1 s.size) ≤ 9223372036854775808 := fun h => hf ⟨h, fun e => by cases e⟩
            rw [decide_eq_false hv] at HN
            have hne := s_full (s := s) (by omega)
            clear hT hF hFt hz hz' hf hv
            generalize ngN (s.extract 1 s.size) = x at *
            generalize bN s 0 = V at *
            go_enter Tryd.func54, Tryd.ntmps54
            go_wp2_with (first | (go_at_call 70; refine (HD _).out.mono ?_; rintro e w' ⟨rfl, rfl⟩) | (go_at_call 71; refine (HN _).out.mono ?_; rintro e w' ⟨rfl, rfl⟩))
            go_ret2
            exact Ret.mk (by rw [HI.out, HC.out]; rfl)
    · have hno : ¬ okI s := fun h => hD (hok.1 h).1
      rw [decide_eq_false hD] at HD
      have HI := Lib.hid (IN_form hno)
      have HC := Lib.hid (IC_form hno)
      clear hok hfit hin hD hno h48
      cases b
      · obtain rfl := hFt rfl
        have hs0 := hF rfl
        clear hT hF hFt
        by_cases h0 : t.size = 0
        · obtain rfl := s_empty h0
          clear hb hbl hs0 h0 zs zt
          go_enter Tryd.func54, Tryd.ntmps54
          go_wp2_with (go_at_call 70; refine (HD _).out.mono ?_; rintro e w' ⟨rfl, rfl⟩)
          go_ret2
          exact Ret.mk (by rw [HI.out, HC.out]; rfl)
        · have hne := s_full h0
          have hd45 : ((bN t 0 : Int) == 45) = false := ieq_f (by omega)
          clear hs0
          generalize bN t 0 = V at *
          go_enter Tryd.func54, Tryd.ntmps54
          go_wp2_with (go_at_call 70; refine (HD _).out.mono ?_; rintro e w' ⟨rfl, rfl⟩)
          go_ret2
          exact Ret.mk (by rw [HI.out, HC.out]; rfl)
      · obtain ⟨hs1, hs2, rfl⟩ := hT rfl
        have hne := s_full (s := s) (by omega)
        clear hT hF hFt
        generalize bN s 0 = V at *
        go_enter Tryd.func54, Tryd.ntmps54
        go_wp2_with (go_at_call 70; refine (HD _).out.mono ?_; rintro e w' ⟨rfl, rfl⟩)
        go_ret2
        exact Ret.mk (by rw [HI.out, HC.out]; rfl)
  by_cases hn : 0 < s.size ∧ bN s 0 = 45
  · have hng : ngb s = true := decide_eq_true hn
    exact key (s.extract 1 s.size) true (by rw [size_extract s 1 s.size (Nat.le_refl _)]; omega) hng (by unfold body; rw [hng]; rfl) (fun _ => ⟨hn.1, hn.2, rfl⟩) (fun h => by cases h) (fun h => by cases h)
  · have hng : ngb s = false := decide_eq_false hn
    exact key s false zs hng (by unfold body; rw [hng]; rfl) (fun h => by cases h) (fun _ => by omega) (fun _ => rfl)
end Go.Proofs.YtidlemedkjkmdaaDoor
