/- The walk over the reference's Parse. (tools/gen_widwc.py writes this text.) -/
import Derived.Test.YtollobhkdbodlaaWidW3
import Derived.Test.YtollobhkdbodlaaWidWA
namespace Go.WD
open Go.VB Go.DT Go.DC Go.RowKit
/-- The first test on a text without its sign. -/
def preW (s : ByteArray) : Prop := s.size ≤ 40 ∧ 0 < (body s).size ∧ ¬ (bN (body s) 0 = 48 ∧ (1 < (body s).size ∨ ngb s = true))
theorem okW_pre {s : ByteArray} : okW s ↔ preW s ∧ digsT (body s) := by
  unfold okW preW isD
  refine ⟨fun ⟨h1, ⟨h2, h3, h4⟩, h5⟩ => ⟨⟨h1, h3, fun ⟨h6, h7⟩ => ?_⟩, h2⟩, fun ⟨⟨h1, h3, h4⟩, h2⟩ => ⟨h1, ⟨h2, h3, fun h6 => ?_⟩, fun ⟨h6, h7⟩ => h4 ⟨h7, .inr h6⟩⟩⟩
  · rcases h7 with h7 | h7
    · have := h4 h6; omega
    · exact h5 ⟨h7, h6⟩
  · have h7 : ¬ 1 < (body s).size := fun h => h4 ⟨h6, .inl h⟩
    omega
theorem carry {x y S : Nat} (hx : x < 18446744073709551616) (hy : y < 18446744073709551616) (e : S = (x + y) % 18446744073709551616) : S + (if S < x then 1 else 0) * 18446744073709551616 = x + y := by
  split <;> omega
/-- One step of reading. -/
theorem read_step {h l d B8 B2 S M : Nat} (hd : d ≤ 9) (e1 : B8 = l * 8 % 18446744073709551616) (e2 : B2 = l * 2 % 18446744073709551616) (e3 : S = (B8 + B2) % 18446744073709551616) (e4 : M = (S + d) % 18446744073709551616) :
    10 * (h * 18446744073709551616 + l) + d = (h * 8 + l / 2305843009213693952 + (h * 2 + l / 9223372036854775808) + (if S < B8 then 1 else 0) + (if M < S then 1 else 0)) * 18446744073709551616 + M := by
  have f1 : l * 8 / 18446744073709551616 = l / 2305843009213693952 := by
    rw [show (18446744073709551616 : Nat) = 2305843009213693952 * 8 from rfl, Nat.mul_div_mul_right _ _ (by decide)]
  have f2 : l * 2 / 18446744073709551616 = l / 9223372036854775808 := by
    rw [show (18446744073709551616 : Nat) = 9223372036854775808 * 2 from rfl, Nat.mul_div_mul_right _ _ (by decide)]
  have g1 := Nat.div_add_mod (l * 8) 18446744073709551616
  have g2 := Nat.div_add_mod (l * 2) 18446744073709551616
  rw [f1, ← e1] at g1
  rw [f2, ← e2] at g2
  have b1 : B8 < 18446744073709551616 := by rw [e1]; exact Nat.mod_lt _ (by decide)
  have b2 : B2 < 18446744073709551616 := by rw [e2]; exact Nat.mod_lt _ (by decide)
  have b3 : S < 18446744073709551616 := by rw [e3]; exact Nat.mod_lt _ (by decide)
  have k1 := carry b1 b2 e3
  have k2 := carry b3 (by omega) e4
  clear e1 e2 e3 e4 f1 f2 b1 b2 b3
  generalize l / 2305843009213693952 = a at *
  generalize l / 9223372036854775808 = c at *
  generalize (if S < B8 then 1 else 0 : Nat) = c1 at *
  generalize (if M < S then 1 else 0 : Nat) = c2 at *
  omega
theorem or_61 {h l : Nat} (hh : h ≤ 922337203685477580) (hl : l < 18446744073709551616) : bits .or .u64 ((h : Int) * 8) ((l : Int) / 2305843009213693952) = ((h * 8 + l / 2305843009213693952 : Nat) : Int) := by
  have e := u64_or_nat (h * 8) (l / 2305843009213693952) (by omega) (by omega)
  rw [nat_join 3 (h * 8) _ (by omega) (by omega)] at e
  rw [show ((h * 8 : Nat) : Int) = (h : Int) * 8 from by omega, show ((l / 2305843009213693952 : Nat) : Int) = (l : Int) / 2305843009213693952 from by omega] at e
  exact e
theorem or_63 {h l : Nat} (hh : h ≤ 922337203685477580) (hl : l < 18446744073709551616) : bits .or .u64 ((h : Int) * 2) ((l : Int) / 9223372036854775808) = ((h * 2 + l / 9223372036854775808 : Nat) : Int) := by
  have e := u64_or_nat (h * 2) (l / 9223372036854775808) (by omega) (by omega)
  rw [nat_join 1 (h * 2) _ (by omega) (by omega)] at e
  rw [show ((h * 2 : Nat) : Int) = (h : Int) * 2 from by omega, show ((l / 9223372036854775808 : Nat) : Int) = (l : Int) / 9223372036854775808 from by omega] at e
  exact e
theorem wrap_n (a : Nat) : IntKind.u64.wrap (a : Int) = ((a % 18446744073709551616 : Nat) : Int) := by rw [IntKind.wrap_u64]; omega
/-- The halves of a number. -/
def hq (v : Nat) : Int := ((v / 18446744073709551616 : Nat) : Int)
def lq (v : Nat) : Int := ((v % 18446744073709551616 : Nat) : Int)
theorem hq_is {v h l : Nat} (e : v = h * 18446744073709551616 + l) (hl : l < 18446744073709551616) : hq v = (h : Int) ∧ lq v = (l : Int) := by unfold hq lq; omega
theorem nm_le_vl {t : ByteArray} {j : Nat} (h : j ≤ t.size) : nm t 0 j ≤ vl t := by
  have h1 := nm_grow t j (t.size - j) (by omega)
  rw [show j + (t.size - j) = t.size from by omega] at h1
  have h2 : nm t 0 j * 1 ≤ nm t 0 j * 10 ^ (t.size - j) := Nat.mul_le_mul_left _ (Nat.pow_pos (by decide))
  unfold vl; omega
theorem hi_of {v h l : Nat} (e : v = h * 18446744073709551616 + l) (hl : l < 18446744073709551616) : wrap64 (h : Int) = hi (v : Int) ∧ (l : Int) = lo (v : Int) := by unfold hi lo wrap64; omega
end Go.WD
namespace Go.Proofs.Ytollobhkdbodlaa
open Go.RowKit Go.VB Go.WD Go.DT Go.DC
set_option maxRecDepth 100000 in
set_option maxHeartbeats 4000000 in
theorem rwparse_pos (s : ByteArray) (w : World) (zs : s.size ≤ 140737488351232) (h45 : ¬ (0 < s.size ∧ bN s 0 = 45)) : Calls Try.prog 25 #[.string s] w (RetB (.tuple #[wd (WN s), .int .i64 (WC s : Nat)]) w) := by
  have hgs := get_bN s
  have hng : ngb s = false := decide_eq_false h45
  have hbd : body s = s := by unfold body; rw [hng, if_neg (by decide)]
  have hok := okW_pre (s := s)
  unfold preW at hok
  rw [hbd, hng] at hok
  have hfit : fitsW s ↔ vl s ≤ 170141183460469231731687303715884105727 := by unfold fitsW limW; rw [hbd, hng, if_neg (by decide)]
  have hval : okW s → fitsW s → WN s = ((vl s : Nat) : Int) := fun h1 h2 => by rw [WN_ok h1 h2, hng, hbd]; rfl
  clear hbd hng
  have hb0 : bN s 0 < 256 := bN_lt s 0
  by_cases hsz : 0 < s.size
  · have h46 : ¬ bN s 0 = 45 := fun h => h45 ⟨hsz, h⟩
    clear h45
    have hd45 : ((bN s 0 : Int) == 45) = false := beq_eq_false_iff_ne.2 (by omega)
    have hd0 : ((s.size : Int) == 0) = false := beq_eq_false_iff_ne.2 (by omega)
    have hne : ¬ s = ByteArray.empty := fun h => by rw [h] at hsz; exact absurd hsz (by decide)
    by_cases h40 : s.size ≤ 40
    · have hd40 : decide ((40 : Int) < (s.size : Int)) = false := decide_eq_false (by omega)
      by_cases h48 : bN s 0 = 48
      · have hd48 : ((bN s 0 : Int) == 48) = true := beq_iff_eq.2 (by omega)
        by_cases h1 : 1 < s.size
        · have hb : ¬ okW s := fun h => (hok.1 h).1.2.2 ⟨h48, .inl h1⟩
          rw [WN_bad hb, WC_bad hb, wd_zero]
          clear hb hok hfit hval h48 h46
          generalize gV0 : bN s 0 = V0 at *
          go_enter Try.func25, Try.ntmps25
          go_wp2
          refine bodyPost_ret (v := .tuple #[.agg #[.int .i64 0, .int .u64 0], .int .i64 2]) (by simp [results, Try.results25, go_sem]) rfl ?_
          exact RetB.mk rfl (by go_grown)
        · have hd1 : decide ((1 : Int) < (s.size : Int)) = false := decide_eq_false (by omega)
          have hok2 : okW s ↔ digsT s := hok.trans ⟨fun h => h.2, fun h => ⟨⟨h40, hsz, fun h2 => by rcases h2.2 with h3 | h3; exact h1 h3; cases h3⟩, h⟩⟩
          clear h46 h48 hok h1
          generalize gV0 : bN s 0 = V0 at *
          have HOK := Lib.hid hok2; have HFIT := Lib.hid hfit; have HVAL := Lib.hid hval
          clear hok2 hfit hval
          go_enter Try.func25, Try.ntmps25
          go_wp2
          clear hd45 hd48 gV0 hb0 hd40 hd0 hne hd1
          go_loop [6] (fun i => ∃ j : Nat, i = .int .i64 j ∧ j ≤ s.size ∧ ∀ k, k < j → dig (bN s k)) (fun i => s.size - (intOf i).toNat)
          case atStart => exact ⟨0, rfl, Nat.zero_le _, fun k hk => absurd hk (Nat.not_lt_zero k)⟩
          case round =>
            obtain ⟨j, rfl, hj, hf⟩ := hrel
            have HF := Lib.hid hf; clear hf
            by_cases hlt : j < s.size
            · have hix : bN s j < 256 := bN_lt s j
              generalize gV : bN s j = V at *
              have GV := Lib.hid gV
              by_cases h1 : V < 48 ∨ 57 < V
              · have hb : ¬ okW s := fun h => by
                  have := HOK.out.1 h j hlt
                  unfold dig at this; omega
                have HB := Lib.hid hb; clear hb
                rw [WN_bad HB.out, WC_bad HB.out, wd_zero]
                rcases h1 with h1 | h1
                · go_wp2
                  refine bodyPost_ret (v := .tuple #[.agg #[.int .i64 0, .int .u64 0], .int .i64 2]) (by simp [results, Try.results25, go_sem]) rfl ?_
                  exact RetB.mk rfl (by go_grown)
                · go_wp2
                  refine bodyPost_ret (v := .tuple #[.agg #[.int .i64 0, .int .u64 0], .int .i64 2]) (by simp [results, Try.results25, go_sem]) rfl ?_
                  exact RetB.mk rfl (by go_grown)
              · have h2 : ¬ V < 48 := fun h => h1 (.inl h)
                have h3 : ¬ 57 < V := fun h => h1 (.inr h)
                clear h1
                go_wp2
                exact ⟨⟨j + 1, by go_num, by omega, snocD HF.out (by rw [GV.out]; unfold dig; omega)⟩, by simp [intOf] <;> omega⟩
            · obtain rfl : j = s.size := by omega
              clear hlt hj
              have hdig : digsT s := HF.out
              have ho := HOK.out.2 hdig
              have HO := Lib.hid ho; have HDIG := Lib.hid hdig
              clear HF ho hdig HOK
              go_wp2_with fail
              go_loop [7, 8, 9] (fun h l i => ∃ j : Nat, h = .int .u64 (hq (nm s 0 j)) ∧ l = .int .u64 (lq (nm s 0 j)) ∧ i = .int .i64 (j : Int) ∧ j ≤ s.size ∧ nm s 0 j ≤ 170141183460469231731687303715884105727) (fun _ _ i => s.size - (intOf i).toNat)
              case atStart => exact ⟨0, by rw [nm_zero]; rfl, by rw [nm_zero]; rfl, rfl, Nat.zero_le _, by rw [nm_zero]; decide⟩
              case round =>
                obtain ⟨j, rfl, rfl, rfl, hj, hv⟩ := hrel
                by_cases hlt : j < s.size
                · have hx := nm_next hlt HDIG.out
                  have hV := HDIG.out j hlt
                  unfold dig at hV
                  have hix : bN s j < 256 := bN_lt s j
                  generalize gV : bN s j = V at *
                  have hvv := Nat.div_add_mod (nm s 0 j) 18446744073709551616
                  have hl : nm s 0 j % 18446744073709551616 < 18446744073709551616 := Nat.mod_lt _ (by decide)
                  rw [show hq (nm s 0 j) = ((nm s 0 j / 18446744073709551616 : Nat) : Int) from rfl, show lq (nm s 0 j) = ((nm s 0 j % 18446744073709551616 : Nat) : Int) from rfl]
                  generalize nm s 0 j / 18446744073709551616 = h at *
                  generalize nm s 0 j % 18446744073709551616 = l at *
                  have hx2 : nm s 0 (j + 1) = 10 * (h * 18446744073709551616 + l) + (V - 48) := by omega
                  have HX2 := Lib.hid hx2
                  clear hx hx2 hvv hv
                  by_cases hov : 922337203685477580 < h
                  · have hB : ¬ fitsW s := fun hh => by
                      have h1 := HFIT.out.1 hh
                      have h2 := nm_le_vl (t := s) (j := j + 1) (by omega)
                      rw [HX2.out] at h2
                      omega
                    rw [WN_big hB, WC_big HO.out hB, wd_zero]
                    clear hB
                    go_wp2
                    refine bodyPost_ret (v := .tuple #[.agg #[.int .i64 0, .int .u64 0], .int .i64 8]) (by simp [results, Try.results25, go_sem]) rfl ?_
                    exact RetB.mk rfl (by go_grown)
                  have e1 := or_61 (h := h) (by omega) hl
                  have e3 := or_63 (h := h) (by omega) hl
                  have e2 := wrap_n (l * 8)
                  rw [show ((l * 8 : Nat) : Int) = (l : Int) * 8 from by omega] at e2
                  have e4 := wrap_n (l * 2)
                  rw [show ((l * 2 : Nat) : Int) = (l : Int) * 2 from by omega] at e4
                  obtain ⟨B8, gB8⟩ : ∃ x, x = l * 8 % 18446744073709551616 := ⟨_, rfl⟩
                  obtain ⟨B2, gB2⟩ : ∃ x, x = l * 2 % 18446744073709551616 := ⟨_, rfl⟩
                  rw [← gB8] at e2
                  rw [← gB2] at e4
                  have e5 := wrap_n (B8 + B2)
                  rw [show ((B8 + B2 : Nat) : Int) = (B8 : Int) + (B2 : Int) from by omega] at e5
                  obtain ⟨S, gS⟩ : ∃ x, x = (B8 + B2) % 18446744073709551616 := ⟨_, rfl⟩
                  rw [← gS] at e5
                  have e6 := wrap_n (S + (V - 48))
                  rw [show ((S + (V - 48) : Nat) : Int) = (S : Int) + ((V : Int) - 48) from by omega] at e6
                  obtain ⟨M, gM⟩ : ∃ x, x = (S + (V - 48)) % 18446744073709551616 := ⟨_, rfl⟩
                  rw [← gM] at e6
                  have hst := read_step (h := h) (show V - 48 ≤ 9 by omega) gB8 gB2 gS gM
                  have hMl : M < 18446744073709551616 := by rw [gM]; exact Nat.mod_lt _ (by decide)
                  have hSl : S < 18446744073709551616 := by rw [gS]; exact Nat.mod_lt _ (by decide)
                  have hB8 : B8 < 18446744073709551616 := by rw [gB8]; exact Nat.mod_lt _ (by decide)
                  have hB2 : B2 < 18446744073709551616 := by rw [gB2]; exact Nat.mod_lt _ (by decide)
                  have hA8 : h * 8 + l / 2305843009213693952 ≤ 7378697629483820648 := by omega
                  have hA2 : h * 2 + l / 9223372036854775808 ≤ 1844674407370955162 := by omega
                  clear gB8 gB2 gS gM
                  generalize h * 8 + l / 2305843009213693952 = A8 at *
                  generalize h * 2 + l / 9223372036854775808 = A2 at *
                  have hI : (0 : Int) ≤ (V : Int) - 48 := by omega
                  have hX : nm s 0 (j + 1) = (A8 + A2 + (if S < B8 then 1 else 0) + (if M < S then 1 else 0)) * 18446744073709551616 + M := by rw [HX2.out, hst]
                  clear hst HX2
                  by_cases hc1 : S < B8
                  · rw [if_pos hc1] at hX
                    by_cases hc2 : M < S
                    · rw [if_pos hc2] at hX
                      obtain ⟨Hn, gH⟩ : ∃ x, x = A8 + A2 + 1 + 1 := ⟨_, rfl⟩
                      rw [← gH] at hX
                      have HN := Lib.hid (hq_is hX hMl); have HX := Lib.hid hX; clear hX
                      have q1 : (A8 : Int) + (A2 : Int) + 1 + 1 = (Hn : Int) := by omega
                      have q2 : Hn ≤ 9223372036854775812 := by omega
                      clear gH
                      by_cases hg : 9223372036854775808 < Hn
                      · have hB : ¬ fitsW s := fun h => by
                          have h1 := HFIT.out.1 h
                          have h2 := nm_le_vl (t := s) (j := j + 1) (by omega)
                          rw [HX.out] at h2
                          omega
                        rw [WN_big hB, WC_big HO.out hB, wd_zero]
                        clear hB
                        go_wp2
                        refine bodyPost_ret (v := .tuple #[.agg #[.int .i64 0, .int .u64 0], .int .i64 8]) (by simp [results, Try.results25, go_sem]) rfl ?_
                        exact RetB.mk rfl (by go_grown)
                      by_cases he : Hn = 9223372036854775808
                      · have hed : ((Hn : Int) == 9223372036854775808) = true := beq_iff_eq.2 (by omega)
                        have hgd : decide ((9223372036854775808 : Int) < (Hn : Int)) = false := decide_eq_false (by omega)
                        by_cases hM : 0 < M
                        · have hB : ¬ fitsW s := fun h => by
                            have h1 := HFIT.out.1 h
                            have h2 := nm_le_vl (t := s) (j := j + 1) (by omega)
                            rw [HX.out] at h2
                            omega
                          rw [WN_big hB, WC_big HO.out hB, wd_zero]
                          clear hB
                          go_wp2
                          refine bodyPost_ret (v := .tuple #[.agg #[.int .i64 0, .int .u64 0], .int .i64 8]) (by simp [results, Try.results25, go_sem]) rfl ?_
                          exact RetB.mk rfl (by go_grown)
                        · have hMd : decide ((0 : Int) < (M : Int)) = false := decide_eq_false (by omega)
                          have hB : ¬ fitsW s := fun h => by
                            have h1 := HFIT.out.1 h
                            have h2 := nm_le_vl (t := s) (j := j + 1) (by omega)
                            rw [HX.out] at h2
                            omega
                          rw [WN_big hB, WC_big HO.out hB, wd_zero]
                          clear hB
                          go_wp2
                          refine bodyPost_ret (v := .tuple #[.agg #[.int .i64 0, .int .u64 0], .int .i64 8]) (by simp [results, Try.results25, go_sem]) rfl ?_
                          exact RetB.mk rfl (by go_grown)
                      · have hed : ((Hn : Int) == 9223372036854775808) = false := beq_eq_false_iff_ne.2 (by omega)
                        go_wp2
                        exact ⟨⟨j + 1, by rw [HN.out.1], by rw [HN.out.2], by go_num, by omega, by rw [HX.out]; omega⟩, by simp [intOf] <;> omega⟩
                    · rw [if_neg hc2] at hX
                      obtain ⟨Hn, gH⟩ : ∃ x, x = A8 + A2 + 1 + 0 := ⟨_, rfl⟩
                      rw [← gH] at hX
                      have HN := Lib.hid (hq_is hX hMl); have HX := Lib.hid hX; clear hX
                      have q1 : (A8 : Int) + (A2 : Int) + 1 = (Hn : Int) := by omega
                      have q2 : Hn ≤ 9223372036854775812 := by omega
                      clear gH
                      by_cases hg : 9223372036854775808 < Hn
                      · have hB : ¬ fitsW s := fun h => by
                          have h1 := HFIT.out.1 h
                          have h2 := nm_le_vl (t := s) (j := j + 1) (by omega)
                          rw [HX.out] at h2
                          omega
                        rw [WN_big hB, WC_big HO.out hB, wd_zero]
                        clear hB
                        go_wp2
                        refine bodyPost_ret (v := .tuple #[.agg #[.int .i64 0, .int .u64 0], .int .i64 8]) (by simp [results, Try.results25, go_sem]) rfl ?_
                        exact RetB.mk rfl (by go_grown)
                      by_cases he : Hn = 9223372036854775808
                      · have hed : ((Hn : Int) == 9223372036854775808) = true := beq_iff_eq.2 (by omega)
                        have hgd : decide ((9223372036854775808 : Int) < (Hn : Int)) = false := decide_eq_false (by omega)
                        by_cases hM : 0 < M
                        · have hB : ¬ fitsW s := fun h => by
                            have h1 := HFIT.out.1 h
                            have h2 := nm_le_vl (t := s) (j := j + 1) (by omega)
                            rw [HX.out] at h2
                            omega
                          rw [WN_big hB, WC_big HO.out hB, wd_zero]
                          clear hB
                          go_wp2
                          refine bodyPost_ret (v := .tuple #[.agg #[.int .i64 0, .int .u64 0], .int .i64 8]) (by simp [results, Try.results25, go_sem]) rfl ?_
                          exact RetB.mk rfl (by go_grown)
                        · have hMd : decide ((0 : Int) < (M : Int)) = false := decide_eq_false (by omega)
                          have hB : ¬ fitsW s := fun h => by
                            have h1 := HFIT.out.1 h
                            have h2 := nm_le_vl (t := s) (j := j + 1) (by omega)
                            rw [HX.out] at h2
                            omega
                          rw [WN_big hB, WC_big HO.out hB, wd_zero]
                          clear hB
                          go_wp2
                          refine bodyPost_ret (v := .tuple #[.agg #[.int .i64 0, .int .u64 0], .int .i64 8]) (by simp [results, Try.results25, go_sem]) rfl ?_
                          exact RetB.mk rfl (by go_grown)
                      · have hed : ((Hn : Int) == 9223372036854775808) = false := beq_eq_false_iff_ne.2 (by omega)
                        go_wp2
                        exact ⟨⟨j + 1, by rw [HN.out.1], by rw [HN.out.2], by go_num, by omega, by rw [HX.out]; omega⟩, by simp [intOf] <;> omega⟩
                  · rw [if_neg hc1] at hX
                    by_cases hc2 : M < S
                    · rw [if_pos hc2] at hX
                      obtain ⟨Hn, gH⟩ : ∃ x, x = A8 + A2 + 0 + 1 := ⟨_, rfl⟩
                      rw [← gH] at hX
                      have HN := Lib.hid (hq_is hX hMl); have HX := Lib.hid hX; clear hX
                      have q1 : (A8 : Int) + (A2 : Int) + 1 = (Hn : Int) := by omega
                      have q2 : Hn ≤ 9223372036854775812 := by omega
                      clear gH
                      by_cases hg : 9223372036854775808 < Hn
                      · have hB : ¬ fitsW s := fun h => by
                          have h1 := HFIT.out.1 h
                          have h2 := nm_le_vl (t := s) (j := j + 1) (by omega)
                          rw [HX.out] at h2
                          omega
                        rw [WN_big hB, WC_big HO.out hB, wd_zero]
                        clear hB
                        go_wp2
                        refine bodyPost_ret (v := .tuple #[.agg #[.int .i64 0, .int .u64 0], .int .i64 8]) (by simp [results, Try.results25, go_sem]) rfl ?_
                        exact RetB.mk rfl (by go_grown)
                      by_cases he : Hn = 9223372036854775808
                      · have hed : ((Hn : Int) == 9223372036854775808) = true := beq_iff_eq.2 (by omega)
                        have hgd : decide ((9223372036854775808 : Int) < (Hn : Int)) = false := decide_eq_false (by omega)
                        by_cases hM : 0 < M
                        · have hB : ¬ fitsW s := fun h => by
                            have h1 := HFIT.out.1 h
                            have h2 := nm_le_vl (t := s) (j := j + 1) (by omega)
                            rw [HX.out] at h2
                            omega
                          rw [WN_big hB, WC_big HO.out hB, wd_zero]
                          clear hB
                          go_wp2
                          refine bodyPost_ret (v := .tuple #[.agg #[.int .i64 0, .int .u64 0], .int .i64 8]) (by simp [results, Try.results25, go_sem]) rfl ?_
                          exact RetB.mk rfl (by go_grown)
                        · have hMd : decide ((0 : Int) < (M : Int)) = false := decide_eq_false (by omega)
                          have hB : ¬ fitsW s := fun h => by
                            have h1 := HFIT.out.1 h
                            have h2 := nm_le_vl (t := s) (j := j + 1) (by omega)
                            rw [HX.out] at h2
                            omega
                          rw [WN_big hB, WC_big HO.out hB, wd_zero]
                          clear hB
                          go_wp2
                          refine bodyPost_ret (v := .tuple #[.agg #[.int .i64 0, .int .u64 0], .int .i64 8]) (by simp [results, Try.results25, go_sem]) rfl ?_
                          exact RetB.mk rfl (by go_grown)
                      · have hed : ((Hn : Int) == 9223372036854775808) = false := beq_eq_false_iff_ne.2 (by omega)
                        go_wp2
                        exact ⟨⟨j + 1, by rw [HN.out.1], by rw [HN.out.2], by go_num, by omega, by rw [HX.out]; omega⟩, by simp [intOf] <;> omega⟩
                    · rw [if_neg hc2] at hX
                      obtain ⟨Hn, gH⟩ : ∃ x, x = A8 + A2 + 0 + 0 := ⟨_, rfl⟩
                      rw [← gH] at hX
                      have HN := Lib.hid (hq_is hX hMl); have HX := Lib.hid hX; clear hX
                      have q1 : (A8 : Int) + (A2 : Int) = (Hn : Int) := by omega
                      have q2 : Hn ≤ 9223372036854775812 := by omega
                      clear gH
                      by_cases hg : 9223372036854775808 < Hn
                      · have hB : ¬ fitsW s := fun h => by
                          have h1 := HFIT.out.1 h
                          have h2 := nm_le_vl (t := s) (j := j + 1) (by omega)
                          rw [HX.out] at h2
                          omega
                        rw [WN_big hB, WC_big HO.out hB, wd_zero]
                        clear hB
                        go_wp2
                        refine bodyPost_ret (v := .tuple #[.agg #[.int .i64 0, .int .u64 0], .int .i64 8]) (by simp [results, Try.results25, go_sem]) rfl ?_
                        exact RetB.mk rfl (by go_grown)
                      by_cases he : Hn = 9223372036854775808
                      · have hed : ((Hn : Int) == 9223372036854775808) = true := beq_iff_eq.2 (by omega)
                        have hgd : decide ((9223372036854775808 : Int) < (Hn : Int)) = false := decide_eq_false (by omega)
                        by_cases hM : 0 < M
                        · have hB : ¬ fitsW s := fun h => by
                            have h1 := HFIT.out.1 h
                            have h2 := nm_le_vl (t := s) (j := j + 1) (by omega)
                            rw [HX.out] at h2
                            omega
                          rw [WN_big hB, WC_big HO.out hB, wd_zero]
                          clear hB
                          go_wp2
                          refine bodyPost_ret (v := .tuple #[.agg #[.int .i64 0, .int .u64 0], .int .i64 8]) (by simp [results, Try.results25, go_sem]) rfl ?_
                          exact RetB.mk rfl (by go_grown)
                        · have hMd : decide ((0 : Int) < (M : Int)) = false := decide_eq_false (by omega)
                          have hB : ¬ fitsW s := fun h => by
                            have h1 := HFIT.out.1 h
                            have h2 := nm_le_vl (t := s) (j := j + 1) (by omega)
                            rw [HX.out] at h2
                            omega
                          rw [WN_big hB, WC_big HO.out hB, wd_zero]
                          clear hB
                          go_wp2
                          refine bodyPost_ret (v := .tuple #[.agg #[.int .i64 0, .int .u64 0], .int .i64 8]) (by simp [results, Try.results25, go_sem]) rfl ?_
                          exact RetB.mk rfl (by go_grown)
                      · have hed : ((Hn : Int) == 9223372036854775808) = false := beq_eq_false_iff_ne.2 (by omega)
                        go_wp2
                        exact ⟨⟨j + 1, by rw [HN.out.1], by rw [HN.out.2], by go_num, by omega, by rw [HX.out]; omega⟩, by simp [intOf] <;> omega⟩
                · obtain rfl : j = s.size := by omega
                  have hf : fitsW s := HFIT.out.2 hv
                  have hvv := Nat.div_add_mod (nm s 0 s.size) 18446744073709551616
                  have hl : nm s 0 s.size % 18446744073709551616 < 18446744073709551616 := Nat.mod_lt _ (by decide)
                  have HV := Lib.hid (HVAL.out HO.out hf); have HC := Lib.hid (WC_ok HO.out hf)
                  rw [show hq (nm s 0 s.size) = ((nm s 0 s.size / 18446744073709551616 : Nat) : Int) from rfl, show lq (nm s 0 s.size) = ((nm s 0 s.size % 18446744073709551616 : Nat) : Int) from rfl]
                  obtain ⟨w1, w2⟩ := hi_of (v := vl s) (h := nm s 0 s.size / 18446744073709551616) (l := nm s 0 s.size % 18446744073709551616) (by show nm s 0 s.size = _; omega) hl
                  have hh : nm s 0 s.size / 18446744073709551616 ≤ 9223372036854775807 := by omega
                  have W1 := Lib.hid w1; have W2 := Lib.hid w2
                  clear w1 w2 hvv hv hf HFIT HVAL HO HDIG hlt
                  generalize nm s 0 s.size / 18446744073709551616 = h at *
                  generalize nm s 0 s.size % 18446744073709551616 = l at *
                  have hw : wrap64 (h : Int) = (h : Int) := by unfold wrap64; omega
                  have HW := Lib.hid hw
                  clear hw
                  go_wp2
                  refine bodyPost_ret (v := .tuple #[.agg #[.int .i64 (h : Int), .int .u64 (l : Int)], .int .i64 0]) (by simp [results, Try.results25, go_sem]) rfl ?_
                  exact RetB.mk (by rw [HV.out, HC.out, wd_is, ← W2.out, ← W1.out, HW.out]; rfl) (by go_grown)
      · have hd48 : ((bN s 0 : Int) == 48) = false := beq_eq_false_iff_ne.2 (by omega)
        have hok2 : okW s ↔ digsT s := hok.trans ⟨fun h => h.2, fun h => ⟨⟨h40, hsz, fun h2 => h48 h2.1⟩, h⟩⟩
        clear h46 h48 hok
        generalize gV0 : bN s 0 = V0 at *
        have HOK := Lib.hid hok2; have HFIT := Lib.hid hfit; have HVAL := Lib.hid hval
        clear hok2 hfit hval
        go_enter Try.func25, Try.ntmps25
        go_wp2
        clear hd45 hd48 gV0 hb0 hd40 hd0 hne
        go_loop [6] (fun i => ∃ j : Nat, i = .int .i64 j ∧ j ≤ s.size ∧ ∀ k, k < j → dig (bN s k)) (fun i => s.size - (intOf i).toNat)
        case atStart => exact ⟨0, rfl, Nat.zero_le _, fun k hk => absurd hk (Nat.not_lt_zero k)⟩
        case round =>
          obtain ⟨j, rfl, hj, hf⟩ := hrel
          have HF := Lib.hid hf; clear hf
          by_cases hlt : j < s.size
          · have hix : bN s j < 256 := bN_lt s j
            generalize gV : bN s j = V at *
            have GV := Lib.hid gV
            by_cases h1 : V < 48 ∨ 57 < V
            · have hb : ¬ okW s := fun h => by
                have := HOK.out.1 h j hlt
                unfold dig at this; omega
              have HB := Lib.hid hb; clear hb
              rw [WN_bad HB.out, WC_bad HB.out, wd_zero]
              rcases h1 with h1 | h1
              · go_wp2
                refine bodyPost_ret (v := .tuple #[.agg #[.int .i64 0, .int .u64 0], .int .i64 2]) (by simp [results, Try.results25, go_sem]) rfl ?_
                exact RetB.mk rfl (by go_grown)
              · go_wp2
                refine bodyPost_ret (v := .tuple #[.agg #[.int .i64 0, .int .u64 0], .int .i64 2]) (by simp [results, Try.results25, go_sem]) rfl ?_
                exact RetB.mk rfl (by go_grown)
            · have h2 : ¬ V < 48 := fun h => h1 (.inl h)
              have h3 : ¬ 57 < V := fun h => h1 (.inr h)
              clear h1
              go_wp2
              exact ⟨⟨j + 1, by go_num, by omega, snocD HF.out (by rw [GV.out]; unfold dig; omega)⟩, by simp [intOf] <;> omega⟩
          · obtain rfl : j = s.size := by omega
            clear hlt hj
            have hdig : digsT s := HF.out
            have ho := HOK.out.2 hdig
            have HO := Lib.hid ho; have HDIG := Lib.hid hdig
            clear HF ho hdig HOK
            go_wp2_with fail
            go_loop [7, 8, 9] (fun h l i => ∃ j : Nat, h = .int .u64 (hq (nm s 0 j)) ∧ l = .int .u64 (lq (nm s 0 j)) ∧ i = .int .i64 (j : Int) ∧ j ≤ s.size ∧ nm s 0 j ≤ 170141183460469231731687303715884105727) (fun _ _ i => s.size - (intOf i).toNat)
            case atStart => exact ⟨0, by rw [nm_zero]; rfl, by rw [nm_zero]; rfl, rfl, Nat.zero_le _, by rw [nm_zero]; decide⟩
            case round =>
              obtain ⟨j, rfl, rfl, rfl, hj, hv⟩ := hrel
              by_cases hlt : j < s.size
              · have hx := nm_next hlt HDIG.out
                have hV := HDIG.out j hlt
                unfold dig at hV
                have hix : bN s j < 256 := bN_lt s j
                generalize gV : bN s j = V at *
                have hvv := Nat.div_add_mod (nm s 0 j) 18446744073709551616
                have hl : nm s 0 j % 18446744073709551616 < 18446744073709551616 := Nat.mod_lt _ (by decide)
                rw [show hq (nm s 0 j) = ((nm s 0 j / 18446744073709551616 : Nat) : Int) from rfl, show lq (nm s 0 j) = ((nm s 0 j % 18446744073709551616 : Nat) : Int) from rfl]
                generalize nm s 0 j / 18446744073709551616 = h at *
                generalize nm s 0 j % 18446744073709551616 = l at *
                have hx2 : nm s 0 (j + 1) = 10 * (h * 18446744073709551616 + l) + (V - 48) := by omega
                have HX2 := Lib.hid hx2
                clear hx hx2 hvv hv
                by_cases hov : 922337203685477580 < h
                · have hB : ¬ fitsW s := fun hh => by
                    have h1 := HFIT.out.1 hh
                    have h2 := nm_le_vl (t := s) (j := j + 1) (by omega)
                    rw [HX2.out] at h2
                    omega
                  rw [WN_big hB, WC_big HO.out hB, wd_zero]
                  clear hB
                  go_wp2
                  refine bodyPost_ret (v := .tuple #[.agg #[.int .i64 0, .int .u64 0], .int .i64 8]) (by simp [results, Try.results25, go_sem]) rfl ?_
                  exact RetB.mk rfl (by go_grown)
                have e1 := or_61 (h := h) (by omega) hl
                have e3 := or_63 (h := h) (by omega) hl
                have e2 := wrap_n (l * 8)
                rw [show ((l * 8 : Nat) : Int) = (l : Int) * 8 from by omega] at e2
                have e4 := wrap_n (l * 2)
                rw [show ((l * 2 : Nat) : Int) = (l : Int) * 2 from by omega] at e4
                obtain ⟨B8, gB8⟩ : ∃ x, x = l * 8 % 18446744073709551616 := ⟨_, rfl⟩
                obtain ⟨B2, gB2⟩ : ∃ x, x = l * 2 % 18446744073709551616 := ⟨_, rfl⟩
                rw [← gB8] at e2
                rw [← gB2] at e4
                have e5 := wrap_n (B8 + B2)
                rw [show ((B8 + B2 : Nat) : Int) = (B8 : Int) + (B2 : Int) from by omega] at e5
                obtain ⟨S, gS⟩ : ∃ x, x = (B8 + B2) % 18446744073709551616 := ⟨_, rfl⟩
                rw [← gS] at e5
                have e6 := wrap_n (S + (V - 48))
                rw [show ((S + (V - 48) : Nat) : Int) = (S : Int) + ((V : Int) - 48) from by omega] at e6
                obtain ⟨M, gM⟩ : ∃ x, x = (S + (V - 48)) % 18446744073709551616 := ⟨_, rfl⟩
                rw [← gM] at e6
                have hst := read_step (h := h) (show V - 48 ≤ 9 by omega) gB8 gB2 gS gM
                have hMl : M < 18446744073709551616 := by rw [gM]; exact Nat.mod_lt _ (by decide)
                have hSl : S < 18446744073709551616 := by rw [gS]; exact Nat.mod_lt _ (by decide)
                have hB8 : B8 < 18446744073709551616 := by rw [gB8]; exact Nat.mod_lt _ (by decide)
                have hB2 : B2 < 18446744073709551616 := by rw [gB2]; exact Nat.mod_lt _ (by decide)
                have hA8 : h * 8 + l / 2305843009213693952 ≤ 7378697629483820648 := by omega
                have hA2 : h * 2 + l / 9223372036854775808 ≤ 1844674407370955162 := by omega
                clear gB8 gB2 gS gM
                generalize h * 8 + l / 2305843009213693952 = A8 at *
                generalize h * 2 + l / 9223372036854775808 = A2 at *
                have hI : (0 : Int) ≤ (V : Int) - 48 := by omega
                have hX : nm s 0 (j + 1) = (A8 + A2 + (if S < B8 then 1 else 0) + (if M < S then 1 else 0)) * 18446744073709551616 + M := by rw [HX2.out, hst]
                clear hst HX2
                by_cases hc1 : S < B8
                · rw [if_pos hc1] at hX
                  by_cases hc2 : M < S
                  · rw [if_pos hc2] at hX
                    obtain ⟨Hn, gH⟩ : ∃ x, x = A8 + A2 + 1 + 1 := ⟨_, rfl⟩
                    rw [← gH] at hX
                    have HN := Lib.hid (hq_is hX hMl); have HX := Lib.hid hX; clear hX
                    have q1 : (A8 : Int) + (A2 : Int) + 1 + 1 = (Hn : Int) := by omega
                    have q2 : Hn ≤ 9223372036854775812 := by omega
                    clear gH
                    by_cases hg : 9223372036854775808 < Hn
                    · have hB : ¬ fitsW s := fun h => by
                        have h1 := HFIT.out.1 h
                        have h2 := nm_le_vl (t := s) (j := j + 1) (by omega)
                        rw [HX.out] at h2
                        omega
                      rw [WN_big hB, WC_big HO.out hB, wd_zero]
                      clear hB
                      go_wp2
                      refine bodyPost_ret (v := .tuple #[.agg #[.int .i64 0, .int .u64 0], .int .i64 8]) (by simp [results, Try.results25, go_sem]) rfl ?_
                      exact RetB.mk rfl (by go_grown)
                    by_cases he : Hn = 9223372036854775808
                    · have hed : ((Hn : Int) == 9223372036854775808) = true := beq_iff_eq.2 (by omega)
                      have hgd : decide ((9223372036854775808 : Int) < (Hn : Int)) = false := decide_eq_false (by omega)
                      by_cases hM : 0 < M
                      · have hB : ¬ fitsW s := fun h => by
                          have h1 := HFIT.out.1 h
                          have h2 := nm_le_vl (t := s) (j := j + 1) (by omega)
                          rw [HX.out] at h2
                          omega
                        rw [WN_big hB, WC_big HO.out hB, wd_zero]
                        clear hB
                        go_wp2
                        refine bodyPost_ret (v := .tuple #[.agg #[.int .i64 0, .int .u64 0], .int .i64 8]) (by simp [results, Try.results25, go_sem]) rfl ?_
                        exact RetB.mk rfl (by go_grown)
                      · have hMd : decide ((0 : Int) < (M : Int)) = false := decide_eq_false (by omega)
                        have hB : ¬ fitsW s := fun h => by
                          have h1 := HFIT.out.1 h
                          have h2 := nm_le_vl (t := s) (j := j + 1) (by omega)
                          rw [HX.out] at h2
                          omega
                        rw [WN_big hB, WC_big HO.out hB, wd_zero]
                        clear hB
                        go_wp2
                        refine bodyPost_ret (v := .tuple #[.agg #[.int .i64 0, .int .u64 0], .int .i64 8]) (by simp [results, Try.results25, go_sem]) rfl ?_
                        exact RetB.mk rfl (by go_grown)
                    · have hed : ((Hn : Int) == 9223372036854775808) = false := beq_eq_false_iff_ne.2 (by omega)
                      go_wp2
                      exact ⟨⟨j + 1, by rw [HN.out.1], by rw [HN.out.2], by go_num, by omega, by rw [HX.out]; omega⟩, by simp [intOf] <;> omega⟩
                  · rw [if_neg hc2] at hX
                    obtain ⟨Hn, gH⟩ : ∃ x, x = A8 + A2 + 1 + 0 := ⟨_, rfl⟩
                    rw [← gH] at hX
                    have HN := Lib.hid (hq_is hX hMl); have HX := Lib.hid hX; clear hX
                    have q1 : (A8 : Int) + (A2 : Int) + 1 = (Hn : Int) := by omega
                    have q2 : Hn ≤ 9223372036854775812 := by omega
                    clear gH
                    by_cases hg : 9223372036854775808 < Hn
                    · have hB : ¬ fitsW s := fun h => by
                        have h1 := HFIT.out.1 h
                        have h2 := nm_le_vl (t := s) (j := j + 1) (by omega)
                        rw [HX.out] at h2
                        omega
                      rw [WN_big hB, WC_big HO.out hB, wd_zero]
                      clear hB
                      go_wp2
                      refine bodyPost_ret (v := .tuple #[.agg #[.int .i64 0, .int .u64 0], .int .i64 8]) (by simp [results, Try.results25, go_sem]) rfl ?_
                      exact RetB.mk rfl (by go_grown)
                    by_cases he : Hn = 9223372036854775808
                    · have hed : ((Hn : Int) == 9223372036854775808) = true := beq_iff_eq.2 (by omega)
                      have hgd : decide ((9223372036854775808 : Int) < (Hn : Int)) = false := decide_eq_false (by omega)
                      by_cases hM : 0 < M
                      · have hB : ¬ fitsW s := fun h => by
                          have h1 := HFIT.out.1 h
                          have h2 := nm_le_vl (t := s) (j := j + 1) (by omega)
                          rw [HX.out] at h2
                          omega
                        rw [WN_big hB, WC_big HO.out hB, wd_zero]
                        clear hB
                        go_wp2
                        refine bodyPost_ret (v := .tuple #[.agg #[.int .i64 0, .int .u64 0], .int .i64 8]) (by simp [results, Try.results25, go_sem]) rfl ?_
                        exact RetB.mk rfl (by go_grown)
                      · have hMd : decide ((0 : Int) < (M : Int)) = false := decide_eq_false (by omega)
                        have hB : ¬ fitsW s := fun h => by
                          have h1 := HFIT.out.1 h
                          have h2 := nm_le_vl (t := s) (j := j + 1) (by omega)
                          rw [HX.out] at h2
                          omega
                        rw [WN_big hB, WC_big HO.out hB, wd_zero]
                        clear hB
                        go_wp2
                        refine bodyPost_ret (v := .tuple #[.agg #[.int .i64 0, .int .u64 0], .int .i64 8]) (by simp [results, Try.results25, go_sem]) rfl ?_
                        exact RetB.mk rfl (by go_grown)
                    · have hed : ((Hn : Int) == 9223372036854775808) = false := beq_eq_false_iff_ne.2 (by omega)
                      go_wp2
                      exact ⟨⟨j + 1, by rw [HN.out.1], by rw [HN.out.2], by go_num, by omega, by rw [HX.out]; omega⟩, by simp [intOf] <;> omega⟩
                · rw [if_neg hc1] at hX
                  by_cases hc2 : M < S
                  · rw [if_pos hc2] at hX
                    obtain ⟨Hn, gH⟩ : ∃ x, x = A8 + A2 + 0 + 1 := ⟨_, rfl⟩
                    rw [← gH] at hX
                    have HN := Lib.hid (hq_is hX hMl); have HX := Lib.hid hX; clear hX
                    have q1 : (A8 : Int) + (A2 : Int) + 1 = (Hn : Int) := by omega
                    have q2 : Hn ≤ 9223372036854775812 := by omega
                    clear gH
                    by_cases hg : 9223372036854775808 < Hn
                    · have hB : ¬ fitsW s := fun h => by
                        have h1 := HFIT.out.1 h
                        have h2 := nm_le_vl (t := s) (j := j + 1) (by omega)
                        rw [HX.out] at h2
                        omega
                      rw [WN_big hB, WC_big HO.out hB, wd_zero]
                      clear hB
                      go_wp2
                      refine bodyPost_ret (v := .tuple #[.agg #[.int .i64 0, .int .u64 0], .int .i64 8]) (by simp [results, Try.results25, go_sem]) rfl ?_
                      exact RetB.mk rfl (by go_grown)
                    by_cases he : Hn = 9223372036854775808
                    · have hed : ((Hn : Int) == 9223372036854775808) = true := beq_iff_eq.2 (by omega)
                      have hgd : decide ((9223372036854775808 : Int) < (Hn : Int)) = false := decide_eq_false (by omega)
                      by_cases hM : 0 < M
                      · have hB : ¬ fitsW s := fun h => by
                          have h1 := HFIT.out.1 h
                          have h2 := nm_le_vl (t := s) (j := j + 1) (by omega)
                          rw [HX.out] at h2
                          omega
                        rw [WN_big hB, WC_big HO.out hB, wd_zero]
                        clear hB
                        go_wp2
                        refine bodyPost_ret (v := .tuple #[.agg #[.int .i64 0, .int .u64 0], .int .i64 8]) (by simp [results, Try.results25, go_sem]) rfl ?_
                        exact RetB.mk rfl (by go_grown)
                      · have hMd : decide ((0 : Int) < (M : Int)) = false := decide_eq_false (by omega)
                        have hB : ¬ fitsW s := fun h => by
                          have h1 := HFIT.out.1 h
                          have h2 := nm_le_vl (t := s) (j := j + 1) (by omega)
                          rw [HX.out] at h2
                          omega
                        rw [WN_big hB, WC_big HO.out hB, wd_zero]
                        clear hB
                        go_wp2
                        refine bodyPost_ret (v := .tuple #[.agg #[.int .i64 0, .int .u64 0], .int .i64 8]) (by simp [results, Try.results25, go_sem]) rfl ?_
                        exact RetB.mk rfl (by go_grown)
                    · have hed : ((Hn : Int) == 9223372036854775808) = false := beq_eq_false_iff_ne.2 (by omega)
                      go_wp2
                      exact ⟨⟨j + 1, by rw [HN.out.1], by rw [HN.out.2], by go_num, by omega, by rw [HX.out]; omega⟩, by simp [intOf] <;> omega⟩
                  · rw [if_neg hc2] at hX
                    obtain ⟨Hn, gH⟩ : ∃ x, x = A8 + A2 + 0 + 0 := ⟨_, rfl⟩
                    rw [← gH] at hX
                    have HN := Lib.hid (hq_is hX hMl); have HX := Lib.hid hX; clear hX
                    have q1 : (A8 : Int) + (A2 : Int) = (Hn : Int) := by omega
                    have q2 : Hn ≤ 9223372036854775812 := by omega
                    clear gH
                    by_cases hg : 9223372036854775808 < Hn
                    · have hB : ¬ fitsW s := fun h => by
                        have h1 := HFIT.out.1 h
                        have h2 := nm_le_vl (t := s) (j := j + 1) (by omega)
                        rw [HX.out] at h2
                        omega
                      rw [WN_big hB, WC_big HO.out hB, wd_zero]
                      clear hB
                      go_wp2
                      refine bodyPost_ret (v := .tuple #[.agg #[.int .i64 0, .int .u64 0], .int .i64 8]) (by simp [results, Try.results25, go_sem]) rfl ?_
                      exact RetB.mk rfl (by go_grown)
                    by_cases he : Hn = 9223372036854775808
                    · have hed : ((Hn : Int) == 9223372036854775808) = true := beq_iff_eq.2 (by omega)
                      have hgd : decide ((9223372036854775808 : Int) < (Hn : Int)) = false := decide_eq_false (by omega)
                      by_cases hM : 0 < M
                      · have hB : ¬ fitsW s := fun h => by
                          have h1 := HFIT.out.1 h
                          have h2 := nm_le_vl (t := s) (j := j + 1) (by omega)
                          rw [HX.out] at h2
                          omega
                        rw [WN_big hB, WC_big HO.out hB, wd_zero]
                        clear hB
                        go_wp2
                        refine bodyPost_ret (v := .tuple #[.agg #[.int .i64 0, .int .u64 0], .int .i64 8]) (by simp [results, Try.results25, go_sem]) rfl ?_
                        exact RetB.mk rfl (by go_grown)
                      · have hMd : decide ((0 : Int) < (M : Int)) = false := decide_eq_false (by omega)
                        have hB : ¬ fitsW s := fun h => by
                          have h1 := HFIT.out.1 h
                          have h2 := nm_le_vl (t := s) (j := j + 1) (by omega)
                          rw [HX.out] at h2
                          omega
                        rw [WN_big hB, WC_big HO.out hB, wd_zero]
                        clear hB
                        go_wp2
                        refine bodyPost_ret (v := .tuple #[.agg #[.int .i64 0, .int .u64 0], .int .i64 8]) (by simp [results, Try.results25, go_sem]) rfl ?_
                        exact RetB.mk rfl (by go_grown)
                    · have hed : ((Hn : Int) == 9223372036854775808) = false := beq_eq_false_iff_ne.2 (by omega)
                      go_wp2
                      exact ⟨⟨j + 1, by rw [HN.out.1], by rw [HN.out.2], by go_num, by omega, by rw [HX.out]; omega⟩, by simp [intOf] <;> omega⟩
              · obtain rfl : j = s.size := by omega
                have hf : fitsW s := HFIT.out.2 hv
                have hvv := Nat.div_add_mod (nm s 0 s.size) 18446744073709551616
                have hl : nm s 0 s.size % 18446744073709551616 < 18446744073709551616 := Nat.mod_lt _ (by decide)
                have HV := Lib.hid (HVAL.out HO.out hf); have HC := Lib.hid (WC_ok HO.out hf)
                rw [show hq (nm s 0 s.size) = ((nm s 0 s.size / 18446744073709551616 : Nat) : Int) from rfl, show lq (nm s 0 s.size) = ((nm s 0 s.size % 18446744073709551616 : Nat) : Int) from rfl]
                obtain ⟨w1, w2⟩ := hi_of (v := vl s) (h := nm s 0 s.size / 18446744073709551616) (l := nm s 0 s.size % 18446744073709551616) (by show nm s 0 s.size = _; omega) hl
                have hh : nm s 0 s.size / 18446744073709551616 ≤ 9223372036854775807 := by omega
                have W1 := Lib.hid w1; have W2 := Lib.hid w2
                clear w1 w2 hvv hv hf HFIT HVAL HO HDIG hlt
                generalize nm s 0 s.size / 18446744073709551616 = h at *
                generalize nm s 0 s.size % 18446744073709551616 = l at *
                have hw : wrap64 (h : Int) = (h : Int) := by unfold wrap64; omega
                have HW := Lib.hid hw
                clear hw
                go_wp2
                refine bodyPost_ret (v := .tuple #[.agg #[.int .i64 (h : Int), .int .u64 (l : Int)], .int .i64 0]) (by simp [results, Try.results25, go_sem]) rfl ?_
                exact RetB.mk (by rw [HV.out, HC.out, wd_is, ← W2.out, ← W1.out, HW.out]; rfl) (by go_grown)
    · have hd40 : decide ((40 : Int) < (s.size : Int)) = true := decide_eq_true (by omega)
      have hb : ¬ okW s := fun h => h40 (hok.1 h).1.1
      rw [WN_bad hb, WC_bad hb, wd_zero]
      clear hb hok hfit hval h46
      generalize gV0 : bN s 0 = V0 at *
      go_enter Try.func25, Try.ntmps25
      go_wp2
      refine bodyPost_ret (v := .tuple #[.agg #[.int .i64 0, .int .u64 0], .int .i64 2]) (by simp [results, Try.results25, go_sem]) rfl ?_
      exact RetB.mk rfl (by go_grown)
  · have hb : ¬ okW s := fun h => by have := (hok.1 h).1.2.1; omega
    have hs0 : s.size = 0 := by omega
    rw [WN_bad hb, WC_bad hb, wd_zero]
    clear hb hok hfit hval h45
    go_enter Try.func25, Try.ntmps25
    go_wp2
    refine bodyPost_ret (v := .tuple #[.agg #[.int .i64 0, .int .u64 0], .int .i64 2]) (by simp [results, Try.results25, go_sem]) rfl ?_
    exact RetB.mk rfl (by go_grown)
end Go.Proofs.Ytollobhkdbodlaa
