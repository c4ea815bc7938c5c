/- The walk over the reference's Parse: a text with a sign. (tools/gen_widwc.py writes this text.) -/
import Derived.Test.YtollobhkdbodlaaWidWC
namespace Go.Proofs.Ytollobhkdbodlaa
open Go.RowKit Go.VB Go.WD Go.DT Go.DC
set_option maxRecDepth 100000 in
set_option maxHeartbeats 4000000 in
theorem rwparse_neg (s : ByteArray) (w : World) (zs : s.size ≤ 140737488351232) (h45 : 0 < s.size ∧ bN s 0 = 45) : Calls Try.prog 25 #[.string s] w (RetB (.tuple #[wd (WN s), .int .i64 (WC s : Nat)]) w) := by
  have hgs := get_bN s
  have hng : ngb s = true := decide_eq_true h45
  have hbd : body s = s.extract 1 s.size := by unfold body; rw [hng, if_pos rfl]
  have hok := okW_pre (s := s)
  unfold preW at hok
  rw [hbd, hng] at hok
  have hfit : fitsW s ↔ vl (s.extract 1 s.size) ≤ 170141183460469231731687303715884105728 := by unfold fitsW limW; rw [hbd, hng, if_pos rfl]
  have hval : okW s → fitsW s → WN s = -((vl (s.extract 1 s.size) : Nat) : Int) := fun h1 h2 => by rw [WN_ok h1 h2, hng, hbd]; rfl
  have hgD := get_bN (s.extract 1 s.size)
  have hDs : (s.extract 1 s.size).size = s.size - 1 := size_extract s 1 s.size (Nat.le_refl _)
  obtain ⟨hsz, h45⟩ := h45
  have hp1 : (1 : Int) ≤ (s.size : Int) := by omega
  have hd45 : ((bN s 0 : Int) == 45) = true := beq_iff_eq.2 (by omega)
  have hb45 : bN s 0 < 256 := bN_lt s 0
  clear hbd hng h45
  generalize gS0 : bN s 0 = S0 at *
  generalize gD : s.extract 1 s.size = D at *
  have hb0 : bN D 0 < 256 := bN_lt D 0
  have hs2 : D.size + 1 = s.size := by omega
  clear hDs
  by_cases hDz : 0 < D.size
  · have hd0 : ((D.size : Int) == 0) = false := beq_eq_false_iff_ne.2 (by omega)
    have hne : ¬ D = ByteArray.empty := fun h => by rw [h] at hDz; exact absurd hDz (by decide)
    by_cases h40 : s.size ≤ 40
    · have hd40 : decide ((40 : Int) < (s.size : Int)) = false := decide_eq_false (by omega)
      by_cases h48 : bN D 0 = 48
      · have hd48 : ((bN D 0 : Int) == 48) = true := beq_iff_eq.2 (by omega)
        have hb : ¬ okW s := fun h => (hok.1 h).1.2.2 ⟨h48, .inr rfl⟩
        rw [WN_bad hb, WC_bad hb, wd_zero]
        clear hb hok hfit hval h48
        generalize gV0 : bN D 0 = V0 at *
        by_cases h1 : 1 < D.size
        · go_enter Try.func25, Try.ntmps25
          go_wp2
          refine bodyPost_ret (v := .tuple #[.agg #[.int .i64 0, .int .u64 0], .int .i64 2]) (by simp [results, Try.results25, go_sem]) rfl ?_
          exact RetB.mk rfl (by go_grown)
        · have hd1 : decide ((1 : Int) < (D.size : Int)) = false := decide_eq_false (by omega)
          go_enter Try.func25, Try.ntmps25
          go_wp2
          refine bodyPost_ret (v := .tuple #[.agg #[.int .i64 0, .int .u64 0], .int .i64 2]) (by simp [results, Try.results25, go_sem]) rfl ?_
          exact RetB.mk rfl (by go_grown)
      · have hd48 : ((bN D 0 : Int) == 48) = false := beq_eq_false_iff_ne.2 (by omega)
        have hok2 : okW s ↔ digsT D := hok.trans ⟨fun h => h.2, fun h => ⟨⟨h40, hDz, fun h2 => h48 h2.1⟩, h⟩⟩
        clear h48 hok
        generalize gV0 : bN D 0 = V0 at *
        have HOK := Lib.hid hok2; have HFIT := Lib.hid hfit; have HVAL := Lib.hid hval
        clear hok2 hfit hval
        go_enter Try.func25, Try.ntmps25
        go_wp2
        clear hd45 hd48 gV0 hb0 hd40 hd0 hne
        go_loop [6] (fun i => ∃ j : Nat, i = .int .i64 j ∧ j ≤ D.size ∧ ∀ k, k < j → dig (bN D k)) (fun i => D.size - (intOf i).toNat)
        case atStart => exact ⟨0, rfl, Nat.zero_le _, fun k hk => absurd hk (Nat.not_lt_zero k)⟩
        case round =>
          obtain ⟨j, rfl, hj, hf⟩ := hrel
          have HF := Lib.hid hf; clear hf
          by_cases hlt : j < D.size
          · have hix : bN D j < 256 := bN_lt D j
            generalize gV : bN D j = V at *
            have GV := Lib.hid gV
            by_cases h1 : V < 48 ∨ 57 < V
            · have hb : ¬ okW s := fun h => by
                have := HOK.out.1 h j hlt
                unfold dig at this; omega
              have HB := Lib.hid hb; clear hb
              rw [WN_bad HB.out, WC_bad HB.out, wd_zero]
              rcases h1 with h1 | h1
              · go_wp2
                refine bodyPost_ret (v := .tuple #[.agg #[.int .i64 0, .int .u64 0], .int .i64 2]) (by simp [results, Try.results25, go_sem]) rfl ?_
                exact RetB.mk rfl (by go_grown)
              · go_wp2
                refine bodyPost_ret (v := .tuple #[.agg #[.int .i64 0, .int .u64 0], .int .i64 2]) (by simp [results, Try.results25, go_sem]) rfl ?_
                exact RetB.mk rfl (by go_grown)
            · have h2 : ¬ V < 48 := fun h => h1 (.inl h)
              have h3 : ¬ 57 < V := fun h => h1 (.inr h)
              clear h1
              go_wp2
              exact ⟨⟨j + 1, by go_num, by omega, snocD HF.out (by rw [GV.out]; unfold dig; omega)⟩, by simp [intOf] <;> omega⟩
          · obtain rfl : j = D.size := by omega
            clear hlt hj
            have hdig : digsT D := HF.out
            have ho := HOK.out.2 hdig
            have HO := Lib.hid ho; have HDIG := Lib.hid hdig
            clear HF ho hdig HOK
            go_wp2_with fail
            go_loop [7, 8, 9] (fun h l i => ∃ j : Nat, h = .int .u64 (hq (nm D 0 j)) ∧ l = .int .u64 (lq (nm D 0 j)) ∧ i = .int .i64 (j : Int) ∧ j ≤ D.size ∧ nm D 0 j ≤ 170141183460469231731687303715884105728) (fun _ _ i => D.size - (intOf i).toNat)
            case atStart => exact ⟨0, by rw [nm_zero]; rfl, by rw [nm_zero]; rfl, rfl, Nat.zero_le _, by rw [nm_zero]; decide⟩
            case round =>
              obtain ⟨j, rfl, rfl, rfl, hj, hv⟩ := hrel
              by_cases hlt : j < D.size
              · have hx := nm_next hlt HDIG.out
                have hV := HDIG.out j hlt
                unfold dig at hV
                have hix : bN D j < 256 := bN_lt D j
                generalize gV : bN D j = V at *
                have hvv := Nat.div_add_mod (nm D 0 j) 18446744073709551616
                have hl : nm D 0 j % 18446744073709551616 < 18446744073709551616 := Nat.mod_lt _ (by decide)
                rw [show hq (nm D 0 j) = ((nm D 0 j / 18446744073709551616 : Nat) : Int) from rfl, show lq (nm D 0 j) = ((nm D 0 j % 18446744073709551616 : Nat) : Int) from rfl]
                generalize nm D 0 j / 18446744073709551616 = h at *
                generalize nm D 0 j % 18446744073709551616 = l at *
                have hx2 : nm D 0 (j + 1) = 10 * (h * 18446744073709551616 + l) + (V - 48) := by omega
                have HX2 := Lib.hid hx2
                clear hx hx2 hvv hv
                by_cases hov : 922337203685477580 < h
                · have hB : ¬ fitsW s := fun hh => by
                    have h1 := HFIT.out.1 hh
                    have h2 := nm_le_vl (t := D) (j := j + 1) (by omega)
                    rw [HX2.out] at h2
                    omega
                  rw [WN_big hB, WC_big HO.out hB, wd_zero]
                  clear hB
                  go_wp2
                  refine bodyPost_ret (v := .tuple #[.agg #[.int .i64 0, .int .u64 0], .int .i64 8]) (by simp [results, Try.results25, go_sem]) rfl ?_
                  exact RetB.mk rfl (by go_grown)
                have e1 := or_61 (h := h) (by omega) hl
                have e3 := or_63 (h := h) (by omega) hl
                have e2 := wrap_n (l * 8)
                rw [show ((l * 8 : Nat) : Int) = (l : Int) * 8 from by omega] at e2
                have e4 := wrap_n (l * 2)
                rw [show ((l * 2 : Nat) : Int) = (l : Int) * 2 from by omega] at e4
                obtain ⟨B8, gB8⟩ : ∃ x, x = l * 8 % 18446744073709551616 := ⟨_, rfl⟩
                obtain ⟨B2, gB2⟩ : ∃ x, x = l * 2 % 18446744073709551616 := ⟨_, rfl⟩
                rw [← gB8] at e2
                rw [← gB2] at e4
                have e5 := wrap_n (B8 + B2)
                rw [show ((B8 + B2 : Nat) : Int) = (B8 : Int) + (B2 : Int) from by omega] at e5
                obtain ⟨S, gS⟩ : ∃ x, x = (B8 + B2) % 18446744073709551616 := ⟨_, rfl⟩
                rw [← gS] at e5
                have e6 := wrap_n (S + (V - 48))
                rw [show ((S + (V - 48) : Nat) : Int) = (S : Int) + ((V : Int) - 48) from by omega] at e6
                obtain ⟨M, gM⟩ : ∃ x, x = (S + (V - 48)) % 18446744073709551616 := ⟨_, rfl⟩
                rw [← gM] at e6
                have hst := read_step (h := h) (show V - 48 ≤ 9 by omega) gB8 gB2 gS gM
                have hMl : M < 18446744073709551616 := by rw [gM]; exact Nat.mod_lt _ (by decide)
                have hSl : S < 18446744073709551616 := by rw [gS]; exact Nat.mod_lt _ (by decide)
                have hB8 : B8 < 18446744073709551616 := by rw [gB8]; exact Nat.mod_lt _ (by decide)
                have hB2 : B2 < 18446744073709551616 := by rw [gB2]; exact Nat.mod_lt _ (by decide)
                have hA8 : h * 8 + l / 2305843009213693952 ≤ 7378697629483820648 := by omega
                have hA2 : h * 2 + l / 9223372036854775808 ≤ 1844674407370955162 := by omega
                clear gB8 gB2 gS gM
                generalize h * 8 + l / 2305843009213693952 = A8 at *
                generalize h * 2 + l / 9223372036854775808 = A2 at *
                have hI : (0 : Int) ≤ (V : Int) - 48 := by omega
                have hX : nm D 0 (j + 1) = (A8 + A2 + (if S < B8 then 1 else 0) + (if M < S then 1 else 0)) * 18446744073709551616 + M := by rw [HX2.out, hst]
                clear hst HX2
                by_cases hc1 : S < B8
                · rw [if_pos hc1] at hX
                  by_cases hc2 : M < S
                  · rw [if_pos hc2] at hX
                    obtain ⟨Hn, gH⟩ : ∃ x, x = A8 + A2 + 1 + 1 := ⟨_, rfl⟩
                    rw [← gH] at hX
                    have HN := Lib.hid (hq_is hX hMl); have HX := Lib.hid hX; clear hX
                    have q1 : (A8 : Int) + (A2 : Int) + 1 + 1 = (Hn : Int) := by omega
                    have q2 : Hn ≤ 9223372036854775812 := by omega
                    clear gH
                    by_cases hg : 9223372036854775808 < Hn
                    · have hB : ¬ fitsW s := fun h => by
                        have h1 := HFIT.out.1 h
                        have h2 := nm_le_vl (t := D) (j := j + 1) (by omega)
                        rw [HX.out] at h2
                        omega
                      rw [WN_big hB, WC_big HO.out hB, wd_zero]
                      clear hB
                      go_wp2
                      refine bodyPost_ret (v := .tuple #[.agg #[.int .i64 0, .int .u64 0], .int .i64 8]) (by simp [results, Try.results25, go_sem]) rfl ?_
                      exact RetB.mk rfl (by go_grown)
                    by_cases he : Hn = 9223372036854775808
                    · have hed : ((Hn : Int) == 9223372036854775808) = true := beq_iff_eq.2 (by omega)
                      have hgd : decide ((9223372036854775808 : Int) < (Hn : Int)) = false := decide_eq_false (by omega)
                      by_cases hM : 0 < M
                      · have hB : ¬ fitsW s := fun h => by
                          have h1 := HFIT.out.1 h
                          have h2 := nm_le_vl (t := D) (j := j + 1) (by omega)
                          rw [HX.out] at h2
                          omega
                        rw [WN_big hB, WC_big HO.out hB, wd_zero]
                        clear hB
                        go_wp2
                        refine bodyPost_ret (v := .tuple #[.agg #[.int .i64 0, .int .u64 0], .int .i64 8]) (by simp [results, Try.results25, go_sem]) rfl ?_
                        exact RetB.mk rfl (by go_grown)
                      · have hMd : decide ((0 : Int) < (M : Int)) = false := decide_eq_false (by omega)
                        go_wp2
                        exact ⟨⟨j + 1, by rw [HN.out.1, he]; rfl, by rw [HN.out.2], by go_num, by omega, by rw [HX.out]; omega⟩, by simp [intOf] <;> omega⟩
                    · have hed : ((Hn : Int) == 9223372036854775808) = false := beq_eq_false_iff_ne.2 (by omega)
                      go_wp2
                      exact ⟨⟨j + 1, by rw [HN.out.1], by rw [HN.out.2], by go_num, by omega, by rw [HX.out]; omega⟩, by simp [intOf] <;> omega⟩
                  · rw [if_neg hc2] at hX
                    obtain ⟨Hn, gH⟩ : ∃ x, x = A8 + A2 + 1 + 0 := ⟨_, rfl⟩
                    rw [← gH] at hX
                    have HN := Lib.hid (hq_is hX hMl); have HX := Lib.hid hX; clear hX
                    have q1 : (A8 : Int) + (A2 : Int) + 1 = (Hn : Int) := by omega
                    have q2 : Hn ≤ 9223372036854775812 := by omega
                    clear gH
                    by_cases hg : 9223372036854775808 < Hn
                    · have hB : ¬ fitsW s := fun h => by
                        have h1 := HFIT.out.1 h
                        have h2 := nm_le_vl (t := D) (j := j + 1) (by omega)
                        rw [HX.out] at h2
                        omega
                      rw [WN_big hB, WC_big HO.out hB, wd_zero]
                      clear hB
                      go_wp2
                      refine bodyPost_ret (v := .tuple #[.agg #[.int .i64 0, .int .u64 0], .int .i64 8]) (by simp [results, Try.results25, go_sem]) rfl ?_
                      exact RetB.mk rfl (by go_grown)
                    by_cases he : Hn = 9223372036854775808
                    · have hed : ((Hn : Int) == 9223372036854775808) = true := beq_iff_eq.2 (by omega)
                      have hgd : decide ((9223372036854775808 : Int) < (Hn : Int)) = false := decide_eq_false (by omega)
                      by_cases hM : 0 < M
                      · have hB : ¬ fitsW s := fun h => by
                          have h1 := HFIT.out.1 h
                          have h2 := nm_le_vl (t := D) (j := j + 1) (by omega)
                          rw [HX.out] at h2
                          omega
                        rw [WN_big hB, WC_big HO.out hB, wd_zero]
                        clear hB
                        go_wp2
                        refine bodyPost_ret (v := .tuple #[.agg #[.int .i64 0, .int .u64 0], .int .i64 8]) (by simp [results, Try.results25, go_sem]) rfl ?_
                        exact RetB.mk rfl (by go_grown)
                      · have hMd : decide ((0 : Int) < (M : Int)) = false := decide_eq_false (by omega)
                        go_wp2
                        exact ⟨⟨j + 1, by rw [HN.out.1, he]; rfl, by rw [HN.out.2], by go_num, by omega, by rw [HX.out]; omega⟩, by simp [intOf] <;> omega⟩
                    · have hed : ((Hn : Int) == 9223372036854775808) = false := beq_eq_false_iff_ne.2 (by omega)
                      go_wp2
                      exact ⟨⟨j + 1, by rw [HN.out.1], by rw [HN.out.2], by go_num, by omega, by rw [HX.out]; omega⟩, by simp [intOf] <;> omega⟩
                · rw [if_neg hc1] at hX
                  by_cases hc2 : M < S
                  · rw [if_pos hc2] at hX
                    obtain ⟨Hn, gH⟩ : ∃ x, x = A8 + A2 + 0 + 1 := ⟨_, rfl⟩
                    rw [← gH] at hX
                    have HN := Lib.hid (hq_is hX hMl); have HX := Lib.hid hX; clear hX
                    have q1 : (A8 : Int) + (A2 : Int) + 1 = (Hn : Int) := by omega
                    have q2 : Hn ≤ 9223372036854775812 := by omega
                    clear gH
                    by_cases hg : 9223372036854775808 < Hn
                    · have hB : ¬ fitsW s := fun h => by
                        have h1 := HFIT.out.1 h
                        have h2 := nm_le_vl (t := D) (j := j + 1) (by omega)
                        rw [HX.out] at h2
                        omega
                      rw [WN_big hB, WC_big HO.out hB, wd_zero]
                      clear hB
                      go_wp2
                      refine bodyPost_ret (v := .tuple #[.agg #[.int .i64 0, .int .u64 0], .int .i64 8]) (by simp [results, Try.results25, go_sem]) rfl ?_
                      exact RetB.mk rfl (by go_grown)
                    by_cases he : Hn = 9223372036854775808
                    · have hed : ((Hn : Int) == 9223372036854775808) = true := beq_iff_eq.2 (by omega)
                      have hgd : decide ((9223372036854775808 : Int) < (Hn : Int)) = false := decide_eq_false (by omega)
                      by_cases hM : 0 < M
                      · have hB : ¬ fitsW s := fun h => by
                          have h1 := HFIT.out.1 h
                          have h2 := nm_le_vl (t := D) (j := j + 1) (by omega)
                          rw [HX.out] at h2
                          omega
                        rw [WN_big hB, WC_big HO.out hB, wd_zero]
                        clear hB
                        go_wp2
                        refine bodyPost_ret (v := .tuple #[.agg #[.int .i64 0, .int .u64 0], .int .i64 8]) (by simp [results, Try.results25, go_sem]) rfl ?_
                        exact RetB.mk rfl (by go_grown)
                      · have hMd : decide ((0 : Int) < (M : Int)) = false := decide_eq_false (by omega)
                        go_wp2
                        exact ⟨⟨j + 1, by rw [HN.out.1, he]; rfl, by rw [HN.out.2], by go_num, by omega, by rw [HX.out]; omega⟩, by simp [intOf] <;> omega⟩
                    · have hed : ((Hn : Int) == 9223372036854775808) = false := beq_eq_false_iff_ne.2 (by omega)
                      go_wp2
                      exact ⟨⟨j + 1, by rw [HN.out.1], by rw [HN.out.2], by go_num, by omega, by rw [HX.out]; omega⟩, by simp [intOf] <;> omega⟩
                  · rw [if_neg hc2] at hX
                    obtain ⟨Hn, gH⟩ : ∃ x, x = A8 + A2 + 0 + 0 := ⟨_, rfl⟩
                    rw [← gH] at hX
                    have HN := Lib.hid (hq_is hX hMl); have HX := Lib.hid hX; clear hX
                    have q1 : (A8 : Int) + (A2 : Int) = (Hn : Int) := by omega
                    have q2 : Hn ≤ 9223372036854775812 := by omega
                    clear gH
                    by_cases hg : 9223372036854775808 < Hn
                    · have hB : ¬ fitsW s := fun h => by
                        have h1 := HFIT.out.1 h
                        have h2 := nm_le_vl (t := D) (j := j + 1) (by omega)
                        rw [HX.out] at h2
                        omega
                      rw [WN_big hB, WC_big HO.out hB, wd_zero]
                      clear hB
                      go_wp2
                      refine bodyPost_ret (v := .tuple #[.agg #[.int .i64 0, .int .u64 0], .int .i64 8]) (by simp [results, Try.results25, go_sem]) rfl ?_
                      exact RetB.mk rfl (by go_grown)
                    by_cases he : Hn = 9223372036854775808
                    · have hed : ((Hn : Int) == 9223372036854775808) = true := beq_iff_eq.2 (by omega)
                      have hgd : decide ((9223372036854775808 : Int) < (Hn : Int)) = false := decide_eq_false (by omega)
                      by_cases hM : 0 < M
                      · have hB : ¬ fitsW s := fun h => by
                          have h1 := HFIT.out.1 h
                          have h2 := nm_le_vl (t := D) (j := j + 1) (by omega)
                          rw [HX.out] at h2
                          omega
                        rw [WN_big hB, WC_big HO.out hB, wd_zero]
                        clear hB
                        go_wp2
                        refine bodyPost_ret (v := .tuple #[.agg #[.int .i64 0, .int .u64 0], .int .i64 8]) (by simp [results, Try.results25, go_sem]) rfl ?_
                        exact RetB.mk rfl (by go_grown)
                      · have hMd : decide ((0 : Int) < (M : Int)) = false := decide_eq_false (by omega)
                        go_wp2
                        exact ⟨⟨j + 1, by rw [HN.out.1, he]; rfl, by rw [HN.out.2], by go_num, by omega, by rw [HX.out]; omega⟩, by simp [intOf] <;> omega⟩
                    · have hed : ((Hn : Int) == 9223372036854775808) = false := beq_eq_false_iff_ne.2 (by omega)
                      go_wp2
                      exact ⟨⟨j + 1, by rw [HN.out.1], by rw [HN.out.2], by go_num, by omega, by rw [HX.out]; omega⟩, by simp [intOf] <;> omega⟩
              · obtain rfl : j = D.size := by omega
                have hf : fitsW s := HFIT.out.2 hv
                have hvv := Nat.div_add_mod (nm D 0 D.size) 18446744073709551616
                have hl : nm D 0 D.size % 18446744073709551616 < 18446744073709551616 := Nat.mod_lt _ (by decide)
                have HV := Lib.hid (HVAL.out HO.out hf); have HC := Lib.hid (WC_ok HO.out hf)
                rw [show hq (nm D 0 D.size) = ((nm D 0 D.size / 18446744073709551616 : Nat) : Int) from rfl, show lq (nm D 0 D.size) = ((nm D 0 D.size % 18446744073709551616 : Nat) : Int) from rfl]
                obtain ⟨w1, w2⟩ := hi_of (v := vl D) (h := nm D 0 D.size / 18446744073709551616) (l := nm D 0 D.size % 18446744073709551616) (by show nm D 0 D.size = _; omega) hl
                have hN := fun w => Lib.hid (rwneg_any ((vl D : Nat) : Int) w)
                simp only [wd_is] at hN
                rw [← w2] at hN
                generalize g1 : hi (-((vl D : Nat) : Int)) = p9 at *
                generalize g2 : lo (-((vl D : Nat) : Int)) = u9 at *
                have G1 := Lib.hid g1; have G2 := Lib.hid g2; clear g1 g2
                generalize hi ((vl D : Nat) : Int) = P at *
                have hh : nm D 0 D.size / 18446744073709551616 ≤ 9223372036854775808 := by omega
                clear w2 hvv hv hf HFIT HVAL HO HDIG hlt
                generalize nm D 0 D.size / 18446744073709551616 = h at *
                generalize nm D 0 D.size % 18446744073709551616 = l at *
                have v2 := (Var2.new w (.int .i64 0) (.int .u64 0) 24).alloc (.cells #[.int .i64 P, .int .u64 (l : Int)] 24)
                have v7 := Var2.new (w.alloc (.cells #[.int .i64 0, .int .u64 0] 24)) (.int .i64 P) (.int .u64 (l : Int)) 24
                have hb0 : Below w.heap.size w ((w.alloc (.cells #[.int .i64 0, .int .u64 0] 24)).alloc (.cells #[.int .i64 P, .int .u64 (l : Int)] 24)) := by go_grown
                rw [alloc_sz] at v7
                go_wp2_with fail
                (with_reducible refine (hN _).out.mono ?_)
                rintro e w9 ⟨rfl, hb9⟩
                obtain ⟨d0, d1, d2, d3⟩ := v7.step hb9
                obtain ⟨c0, c1, c2, c3⟩ := (v2.step hb9).other (show w.heap.size ≠ w.heap.size + 1 by omega) (.int .i64 p9) (.int .u64 u9)
                have hbb := bel_trans hb0 hb9
                go_wp2
                refine bodyPost_ret (v := .tuple #[.agg #[.int .i64 p9, .int .u64 u9], .int .i64 0]) (by simp [results, Try.results25, go_sem, c0, c1]) rfl ?_
                exact RetB.mk (by rw [HV.out, HC.out, wd_is, G1.out, G2.out]; rfl) (set2_below (set2_below hbb (Nat.le_succ _) _ _) (Nat.le_refl _) _ _)
    · have hd40 : decide ((40 : Int) < (s.size : Int)) = true := decide_eq_true (by omega)
      have hb : ¬ okW s := fun h => h40 (hok.1 h).1.1
      rw [WN_bad hb, WC_bad hb, wd_zero]
      clear hb hok hfit hval
      generalize gV0 : bN D 0 = V0 at *
      go_enter Try.func25, Try.ntmps25
      go_wp2
      refine bodyPost_ret (v := .tuple #[.agg #[.int .i64 0, .int .u64 0], .int .i64 2]) (by simp [results, Try.results25, go_sem]) rfl ?_
      exact RetB.mk rfl (by go_grown)
  · have hb : ¬ okW s := fun h => by have := (hok.1 h).1.2.1; omega
    have hs0 : D.size = 0 := by omega
    have hd0 : ((D.size : Int) == 0) = true := beq_iff_eq.2 (by omega)
    rw [WN_bad hb, WC_bad hb, wd_zero]
    clear hb hok hfit hval
    by_cases h40 : s.size ≤ 40
    · have hd40 : decide ((40 : Int) < (s.size : Int)) = false := decide_eq_false (by omega)
      go_enter Try.func25, Try.ntmps25
      go_wp2
      refine bodyPost_ret (v := .tuple #[.agg #[.int .i64 0, .int .u64 0], .int .i64 2]) (by simp [results, Try.results25, go_sem]) rfl ?_
      exact RetB.mk rfl (by go_grown)
    · omega
theorem rwparse_any (s : ByteArray) (w : World) (zs : s.size ≤ 140737488351232) : Calls Try.prog 25 #[.string s] w (RetB (.tuple #[wd (WN s), .int .i64 (WC s : Nat)]) w) := by
  by_cases h45 : 0 < s.size ∧ bN s 0 = 45
  · exact rwparse_neg s w zs h45
  · exact rwparse_pos s w zs h45
end Go.Proofs.Ytollobhkdbodlaa
