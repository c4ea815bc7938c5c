/- The walk over the reference's ReadNumber. -/
import Derived.Test.YtidlemedkjkmdaaValI
namespace Go.Proofs.Ytidlemedkjkmdaa
open Go.RowKit Go.VB Go.VL Go.DT Go.DC
theorem ngb_true2 {s : ByteArray} (h : ngb s = true) : 0 < s.size ∧ bN s 0 = 45 := of_decide_eq_true h
theorem okI_cd {s t : ByteArray} (h : body s = t) (ho : okI s) : cd t = t.size := by rw [← h]; exact ho.1.1
theorem neg64 {v : Nat} (h : v ≤ 9223372036854775808) : IntKind.i64.wrap (IntKind.u64.wrap (-(v : Int))) = -(v : Int) := by
  rw [IntKind.wrap_i64, IntKind.wrap_u64]; omega
set_option maxRecDepth 100000 in
set_option maxHeartbeats 8000000 in
theorem rnum_any (s : ByteArray) (w : World) (zs : s.size ≤ 140737488351232) : Calls Try.prog 35 #[.string s] w (Ret (.tuple #[.int .i64 (IN s), .int .i64 (IC s : Nat)]) w) := by
  have hb := get_bN s 0
  have hbl := bN_lt s 0
  obtain ⟨t, ht⟩ : ∃ t, body s = t := ⟨_, rfl⟩
  obtain ⟨b, hnb⟩ : ∃ b, ngb s = b := ⟨_, rfl⟩
  have hok : okI s ↔ (isDec t ∧ ¬ (b = true ∧ bN t 0 = 48)) := by unfold okI; rw [ht, hnb]
  have hfit : fitI (ngb s) (vl (body s)) ↔ (vl t ≤ 9223372036854775808 ∧ (b = false → vl t ≠ 9223372036854775808)) := by rw [ht, hnb]; exact Iff.rfl
  have hin := fun h h2 => IN_in (s := s) h h2
  rw [ht, hnb] at hin
  have HFORM : ¬ okI s → Hid (Value.tuple #[.int .i64 (IN s), .int .i64 (IC s : Nat)] = .tuple #[.int .i64 0, .int .i64 2]) := fun h => Lib.hid (by rw [IN_form h, IC_form h]; rfl)
  have HOVER : okI s → ¬ (vl t ≤ 9223372036854775808 ∧ (b = false → vl t ≠ 9223372036854775808)) → Hid (Value.tuple #[.int .i64 (IN s), .int .i64 (IC s : Nat)] = .tuple #[.int .i64 0, .int .i64 8]) := fun h h2 => Lib.hid (by
    have h3 : ¬ fitI (ngb s) (vl (body s)) := fun h4 => h2 (hfit.1 h4)
    rw [IN_over h3, IC_over h h3]; rfl)
  have HOK : okI s → (vl t ≤ 9223372036854775808 ∧ (b = false → vl t ≠ 9223372036854775808)) → Hid (Value.tuple #[.int .i64 (IN s), .int .i64 (IC s : Nat)] = .tuple #[.int .i64 (sgn b (vl t)), .int .i64 0]) := fun h h2 => Lib.hid (by
    rw [hin h h2, IC_in h (hfit.2 h2)]; rfl)
  clear hfit hin
  generalize hR : Value.tuple #[.int .i64 (IN s), .int .i64 (IC s : Nat)] = R at *
  clear hR
  have zt : t.size ≤ 140737488351232 := by
    rw [← ht]; unfold body; split
    · rw [size_extract s 1 s.size (Nat.le_refl _)]; omega
    · exact zs
  have hne : b = true → 0 < s.size ∧ bN s 0 = 45 ∧ s.extract 1 s.size = t := fun h => by
    rw [h] at hnb
    obtain ⟨h1, h2⟩ := ngb_true2 hnb
    refine ⟨h1, h2, ?_⟩
    rw [← ht]; unfold body; rw [hnb]; rfl
  have hnf : b = false → (s.size = 0 ∨ ¬ bN s 0 = 45) ∧ s = t := fun h => by
    rw [h] at hnb
    refine ⟨?_, ?_⟩
    · have := of_decide_eq_false hnb; omega
    · rw [← ht]; unfold body; rw [hnb]; rfl
  have hgt := get_bN t
  have htl := bN_lt t 0
  have hbd : b = false → body s = s := fun h => by rw [h] at hnb; unfold body; rw [hnb]; rfl
  have hbt : b = true → body s = t := fun _ => ht
  clear ht hnb
  -- the ways
  cases b
  · obtain ⟨hs45, rfl⟩ := hnf rfl
    clear hnf
    have HT0 := Lib.hid (show body s = s from hbd rfl)
    clear hbd
    have hd45 : s.size = 0 ∨ ((bN s 0 : Int) == 45) = false := by
      rcases hs45 with h | h
      · exact .inl h
      · exact .inr (ieq_f (by omega))
    clear hs45
    have hs45 := hd45
    clear hd45
    by_cases h0 : s.size = 0
    · have hno := HFORM fun h => (hok.1 h).1.2.1 h0
      clear hok HFORM HOVER HOK hgt htl
      have hT0 := s_empty h0
      subst hT0
      clear hb hbl hs45 zs zt h0 HT0 hne
      go_enter Try.func35, Try.ntmps35
      go_wp2
      go_ret2
      exact Ret.mk (by rw [hno.out]; rfl)
    have ht1 : 0 < s.size := by omega
    have hd45 : ((bN s 0 : Int) == 45) = false := by rcases hs45 with h | h; exact absurd h h0; exact h
    clear hs45 hne
    have hs0 : ((s.size : Int) == 0) = false := ieq_f (by omega)
    have hg0 := hgt 0
    by_cases hz : bN s 0 = 48 ∧ 1 < s.size
    · have hno := HFORM fun h => (hok.1 h).1.2.2 hz
      obtain ⟨hz1, hz2⟩ := hz
      clear hok HFORM HOVER HOK hgt
      generalize bN s 0 = V at *
      go_enter Try.func35, Try.ntmps35
      go_wp2
      all_goals
        go_ret2
        exact Ret.mk (by rw [hno.out]; rfl)
    have hz2 : (bN s 0 = 48 ∧ ((decide ((1 : Int) < (s.size : Int))) = false)) ∨ (((bN s 0 : Int) == 48) = false) := by
      by_cases h : bN s 0 = 48
      · exact .inl ⟨h, decide_eq_false (by omega)⟩
      · exact .inr (ieq_f (by omega))
    have hd01 : bN s 0 = 48 → s.size ≤ 1 := fun h => by omega
    have hokD : isDec s → okI s := fun h => hok.2 ⟨h, fun h => by cases h.1⟩
    clear hok hz
    have HFORM2 := Lib.hid HFORM
    have HOVER2 := fun h : isDec s => Lib.hid (HOVER (hokD h))
    have HOK2 := fun h : isDec s => Lib.hid (HOK (hokD h))
    have HNF : ¬ cd s = s.size → Hid (¬ okI s) := fun h => Lib.hid fun ho => h (okI_cd HT0.out ho)
    have HD0 := Lib.hid hokD
    have HD1 := Lib.hid hd01
    clear HFORM HOVER HOK hokD hd01
    have HB := Lib.hid hgt
    clear hgt
    rcases hz2 with ⟨hz3, hz4⟩ | hz3
    all_goals
      generalize hW : bN s 0 = V0 at *
      have HW := Lib.hid hW
      clear hW
      go_enter Try.func35, Try.ntmps35
      go_wp2
      clear hs0 h0
      go_loop [6] (fun i => ∃ j : Nat, i = .int .i64 j ∧ j ≤ s.size ∧ ∀ k, k < j → dig (bN s k)) (fun i => s.size - (intOf i).toNat)
      case atStart => exact ⟨0, rfl, Nat.zero_le _, none_below⟩
      case round =>
        obtain ⟨j, rfl, hj, hf⟩ := hrel
        have HF := Lib.hid hf; clear hf
        by_cases hlt : j < s.size
        · have hix := bN_lt s j
          have HE := fun (h : ¬ dig (bN s j)) => HFORM2.out (HNF fun hc => h (all_dig hc j hlt)).out
          have HN := fun h => Lib.hid (snoc (p := fun k => dig (bN s k)) (j := j) HF.out h)
          have hgj := HB.out j
          clear HOVER2 HOK2 HNF HFORM2 hg0
          generalize hV : bN s j = V at *
          have HV := Lib.hid hV
          by_cases h1 : V < 48
          · have he := HE (not_dig_lo h1)
            clear HE HN
            go_wp2
            go_ret2
            exact Ret.mk (by rw [he.out]; rfl)
          by_cases h2 : 57 < V
          · have he := HE (not_dig_hi h2)
            clear HE HN
            go_wp2
            go_ret2
            exact Ret.mk (by rw [he.out]; rfl)
          have he := HN (is_dig h1 h2)
          clear HE HN
          go_wp2
          go_round
          case rel => exact ⟨j + 1, by go_num, hlt, he.out⟩
          case measure => simp [intOf] <;> omega
        · have hc : cd s = s.size := cd_eq (Nat.le_refl _) (fun k hk => HF.out k (by omega)) (.inl rfl)
          have hD : isDec s := ⟨hc, by omega, fun h => by have := HD1.out (by rw [← HW.out]; exact h.1); omega⟩
          have hall := fun k (hk : k < s.size) => HF.out k (by omega)
          have HL := fun h => Lib.hid (long_over hD h)
          have HOVER3 := HOVER2 hD
          have HOK3 := HOK2 hD
          clear HOVER2 HOK2 HNF HFORM2 HD0 HD1 hg0 HF
          have HOVER2 := HOVER3
          have HOK2 := HOK3
          clear HOVER3 HOK3
          by_cases hl : 19 < s.size
          · have hbig := HL hl
            have hno := HOVER2.out (fun h => by have := hbig.out; have := h.1; omega)
            have HY := Lib.hid hno.out
            clear hno HOVER2 HOK2 HL hbig hall hD hc
            go_wp2
            go_ret2
            exact Ret.mk (by rw [HY.out]; rfl)
          have hA := Lib.hid hall
          have hP : ∀ k, k ≤ s.size → nm s 0 k < 10000000000000000000 := fun k hk => by
            have h1 := nm_lt s 0 k (by omega) (fun i hi => by have := hA.out i (by omega); unfold dig at this; rw [Nat.zero_add]; omega)
            have h2 : 10 ^ k ≤ 10 ^ 19 := Nat.pow_le_pow_right (by decide) (by omega)
            have h3 : (10 : Nat) ^ 19 = 10000000000000000000 := by decide
            omega
          have HP := Lib.hid hP
          clear HL hall hP hD hc
          go_wp2
          go_loop [7, 8] (fun u i => ∃ j : Nat, u = .int .u64 (nm s 0 j : Nat) ∧ i = .int .i64 j ∧ j ≤ s.size) (fun _ i => s.size - (intOf i).toNat)
          case atStart => exact ⟨0, rfl, rfl, Nat.zero_le _⟩
          case round =>
            obtain ⟨j, rfl, rfl, hj⟩ := hrel
            have hx := HP.out j hj
            by_cases hlt : j < s.size
            · have hix := hA.out j hlt
              unfold dig at hix
              have hs := nm_succ s 0 j (by omega)
              rw [Nat.zero_add] at hs
              have hx2 := HP.out (j + 1) hlt
              rw [hs] at hx2
              have hgj := HB.out j
              generalize hV : bN s j = V at *
              generalize nm s 0 j = x at *
              have HS := Lib.hid hs
              clear hs HOVER2 HOK2
              go_wp2
              go_round
              case rel => exact ⟨j + 1, by rw [HS.out]; go_num, by go_num, hlt⟩
              case measure => simp [intOf] <;> omega
            · have hj2 : j = s.size := by omega
              subst hj2
              have hv : vl s = nm s 0 s.size := rfl
              by_cases hfit : nm s 0 s.size < 9223372036854775808
              · have hyes := HOK2.out (by rw [hv]; exact ⟨by omega, fun h => by omega⟩)
                rw [hv] at hyes
                have HY := Lib.hid hyes.out
                clear hyes hv HOK2 HOVER2
                generalize nm s 0 s.size = v at *
                have hw : IntKind.i64.wrap (v : Int) = v := IntWalk.i64_in _ ⟨by omega, by omega⟩
                have hdv : decide ((v : Int) < 9223372036854775808) = true := decide_eq_true (by omega)
                clear hfit hx
                go_wp2
                go_ret2
                exact Ret.mk (by rw [HY.out]; simp [sgn])
              · have hno := HOVER2.out (by rw [hv]; intro h; have h1 := h.1; have h2 := h.2 (by first | rfl | trivial); omega)
                have HY := Lib.hid hno.out
                clear hno hv HOK2 HOVER2
                generalize nm s 0 s.size = v at *
                have hdv : decide ((v : Int) < 9223372036854775808) = false := decide_eq_false (by omega)
                clear hfit hx
                go_wp2
                go_ret2
                exact Ret.mk (by rw [HY.out]; rfl)
  · obtain ⟨hs1, hs2, hx⟩ := hne rfl
    have HT0 := Lib.hid (show body s = t from hbt rfl)
    clear hne hnf hbd hbt
    by_cases h0 : t.size = 0
    · have hno := HFORM fun h => (hok.1 h).1.2.1 h0
      clear hok HFORM HOVER HOK hgt htl
      have hT0 := s_empty h0
      have hsz := congrArg ByteArray.size hx
      rw [size_extract s 1 s.size (Nat.le_refl _), hT0] at hsz
      have hsz1 : s.size = 1 := by have : (⟨#[]⟩ : ByteArray).size = 0 := rfl; omega
      subst hT0
      clear hsz HT0 h0
      generalize bN s 0 = V at *
      go_enter Try.func35, Try.ntmps35
      go_wp2
      go_ret2
      exact Ret.mk (by rw [hno.out]; rfl)
    have ht1 : 0 < t.size := by omega
    have hs0 : ((t.size : Int) == 0) = false := ieq_f (by omega)
    have hg0 := hgt 0
    by_cases hz : bN t 0 = 48 ∧ True
    · have hno := HFORM fun h => (hok.1 h).2 ⟨rfl, hz.1⟩
      obtain ⟨hz1, hz2⟩ := hz
      clear hok HFORM HOVER HOK hgt
      generalize bN t 0 = V at *
      generalize bN s 0 = V1 at *
      go_enter Try.func35, Try.ntmps35
      go_wp2
      all_goals
        go_ret2
        exact Ret.mk (by rw [hno.out]; rfl)
    have hz3 : ((bN t 0 : Int) == 48) = false := ieq_f (fun h => hz ⟨by omega, trivial⟩)
    have hd01 : bN t 0 = 48 → t.size ≤ 1 := fun h => absurd ⟨h, trivial⟩ hz
    have hokD : isDec t → okI s := fun h => hok.2 ⟨h, fun h => hz ⟨h.2, trivial⟩⟩
    clear hok hz
    have HFORM2 := Lib.hid HFORM
    have HOVER2 := fun h : isDec t => Lib.hid (HOVER (hokD h))
    have HOK2 := fun h : isDec t => Lib.hid (HOK (hokD h))
    have HNF : ¬ cd t = t.size → Hid (¬ okI s) := fun h => Lib.hid fun ho => h (okI_cd HT0.out ho)
    have HD0 := Lib.hid hokD
    have HD1 := Lib.hid hd01
    clear HFORM HOVER HOK hokD hd01
    have HB := Lib.hid hgt
    clear hgt
    generalize hW : bN t 0 = V0 at *
    have HW := Lib.hid hW
    clear hW
    generalize bN s 0 = V1 at *
    go_enter Try.func35, Try.ntmps35
    go_wp2
    clear hs0 h0
    go_loop [6] (fun i => ∃ j : Nat, i = .int .i64 j ∧ j ≤ t.size ∧ ∀ k, k < j → dig (bN t k)) (fun i => t.size - (intOf i).toNat)
    case atStart => exact ⟨0, rfl, Nat.zero_le _, none_below⟩
    case round =>
      obtain ⟨j, rfl, hj, hf⟩ := hrel
      have HF := Lib.hid hf; clear hf
      by_cases hlt : j < t.size
      · have hix := bN_lt t j
        have HE := fun (h : ¬ dig (bN t j)) => HFORM2.out (HNF fun hc => h (all_dig hc j hlt)).out
        have HN := fun h => Lib.hid (snoc (p := fun k => dig (bN t k)) (j := j) HF.out h)
        have hgj := HB.out j
        clear HOVER2 HOK2 HNF HFORM2 hg0
        generalize hV : bN t j = V at *
        have HV := Lib.hid hV
        by_cases h1 : V < 48
        · have he := HE (not_dig_lo h1)
          clear HE HN
          go_wp2
          go_ret2
          exact Ret.mk (by rw [he.out]; rfl)
        by_cases h2 : 57 < V
        · have he := HE (not_dig_hi h2)
          clear HE HN
          go_wp2
          go_ret2
          exact Ret.mk (by rw [he.out]; rfl)
        have he := HN (is_dig h1 h2)
        clear HE HN
        go_wp2
        go_round
        case rel => exact ⟨j + 1, by go_num, hlt, he.out⟩
        case measure => simp [intOf] <;> omega
      · have hc : cd t = t.size := cd_eq (Nat.le_refl _) (fun k hk => HF.out k (by omega)) (.inl rfl)
        have hD : isDec t := ⟨hc, by omega, fun h => by have := HD1.out (by rw [← HW.out]; exact h.1); omega⟩
        have hall := fun k (hk : k < t.size) => HF.out k (by omega)
        have HL := fun h => Lib.hid (long_over hD h)
        have HOVER3 := HOVER2 hD
        have HOK3 := HOK2 hD
        clear HOVER2 HOK2 HNF HFORM2 HD0 HD1 hg0 HF
        have HOVER2 := HOVER3
        have HOK2 := HOK3
        clear HOVER3 HOK3
        by_cases hl : 19 < t.size
        · have hbig := HL hl
          have hno := HOVER2.out (fun h => by have := hbig.out; have := h.1; omega)
          have HY := Lib.hid hno.out
          clear hno HOVER2 HOK2 HL hbig hall hD hc
          go_wp2
          go_ret2
          exact Ret.mk (by rw [HY.out]; rfl)
        have hA := Lib.hid hall
        have hP : ∀ k, k ≤ t.size → nm t 0 k < 10000000000000000000 := fun k hk => by
          have h1 := nm_lt t 0 k (by omega) (fun i hi => by have := hA.out i (by omega); unfold dig at this; rw [Nat.zero_add]; omega)
          have h2 : 10 ^ k ≤ 10 ^ 19 := Nat.pow_le_pow_right (by decide) (by omega)
          have h3 : (10 : Nat) ^ 19 = 10000000000000000000 := by decide
          omega
        have HP := Lib.hid hP
        clear HL hall hP hD hc
        go_wp2
        go_loop [7, 8] (fun u i => ∃ j : Nat, u = .int .u64 (nm t 0 j : Nat) ∧ i = .int .i64 j ∧ j ≤ t.size) (fun _ i => t.size - (intOf i).toNat)
        case atStart => exact ⟨0, rfl, rfl, Nat.zero_le _⟩
        case round =>
          obtain ⟨j, rfl, rfl, hj⟩ := hrel
          have hx := HP.out j hj
          by_cases hlt : j < t.size
          · have hix := hA.out j hlt
            unfold dig at hix
            have hs := nm_succ t 0 j (by omega)
            rw [Nat.zero_add] at hs
            have hx2 := HP.out (j + 1) hlt
            rw [hs] at hx2
            have hgj := HB.out j
            generalize hV : bN t j = V at *
            generalize nm t 0 j = x at *
            have HS := Lib.hid hs
            clear hs HOVER2 HOK2
            go_wp2
            go_round
            case rel => exact ⟨j + 1, by rw [HS.out]; go_num, by go_num, hlt⟩
            case measure => simp [intOf] <;> omega
          · have hj2 : j = t.size := by omega
            subst hj2
            have hv : vl t = nm t 0 t.size := rfl
            by_cases hfit : nm t 0 t.size ≤ 9223372036854775808
            · have hyes := HOK2.out (by rw [hv]; exact ⟨by omega, fun h => by cases h⟩)
              rw [hv] at hyes
              have HY := Lib.hid hyes.out
              clear hyes hv HOK2 HOVER2
              generalize nm t 0 t.size = v at *
              have hw := neg64 hfit
              have hdv : decide ((v : Int) ≤ 9223372036854775808) = true := decide_eq_true (by omega)
              clear hfit hx
              go_wp2
              go_ret2
              exact Ret.mk (by rw [HY.out]; simp [sgn])
            · have hno := HOVER2.out (by rw [hv]; intro h; exact hfit h.1)
              have HY := Lib.hid hno.out
              clear hno hv HOK2 HOVER2
              generalize nm t 0 t.size = v at *
              have hdv : decide ((v : Int) ≤ 9223372036854775808) = false := decide_eq_false (by omega)
              clear hfit hx
              go_wp2
              go_ret2
              exact Ret.mk (by rw [HY.out]; rfl)
end Go.Proofs.Ytidlemedkjkmdaa
