/- The walks over package decimal's and the reference's numbers of texts. -/
import Derived.Test.YtidlemedkjkmdaaDecW6
import Derived.Test.YtidlemedkjkmdaaDecW7
import Derived.Test.YtidlemedkjkmdaaDecW2
namespace Go.DC
open Go.VB Go.DT Go.RowKit
theorem PN_range {s : ByteArray} {k : Int} (h : ¬ okS k) : PN s k = 0 := if_neg fun hk => h hk.1
theorem PC_range {s : ByteArray} {k : Int} (h : ¬ okS k) : PC s k = 4 := if_neg h
theorem PN_form {s : ByteArray} {k : Int} (h : ¬ okF s) : PN s k = 0 := if_neg fun hk => h hk.2.1
theorem PC_form {s : ByteArray} {k : Int} (h : okS k) (h2 : ¬ okF s) : PC s k = 2 := by unfold PC; rw [if_pos h, if_neg h2]
theorem PN_over {s : ByteArray} {k : Int} (h : ¬ fitsD s k.toNat) : PN s k = 0 := if_neg fun hk => h hk.2.2
theorem PC_over {s : ByteArray} {k : Int} (h : okS k) (h2 : okF s) (h3 : ¬ fitsD s k.toNat) : PC s k = 8 := by unfold PC; rw [if_pos h, if_pos h2, if_neg h3]
theorem PN_in {s : ByteArray} {k : Int} (h : okS k) (h2 : okF s) (h3 : fitsD s k.toNat) : PN s k = sgn (ngb s) (big s k.toNat) := if_pos ⟨h, h2, h3⟩
theorem PC_in {s : ByteArray} {k : Int} (h : okS k) (h2 : okF s) (h3 : fitsD s k.toNat) : PC s k = 0 := by unfold PC; rw [if_pos h, if_pos h2, if_pos h3]
/-- All bytes of the two parts are digits. -/
theorem parts_dig {s : ByteArray} (h : okF s) : (∀ k, k < (ip (body s)).size → dig (bN (ip (body s)) k)) ∧ (∀ k, k < (fp (body s)).size → dig (bN (fp (body s)) k)) := by
  obtain ⟨h1, h2, h3⟩ := h.1
  refine ⟨fun k hk => ?_, fun k hk => ?_⟩
  · unfold ip at hk ⊢
    rw [size_extract _ _ _ (cd_le _)] at hk
    rw [bN_extract _ _ _ _ hk, Nat.zero_add]
    exact cd_dig _ (by omega)
  · by_cases hp : cd (body s) < (body s).size
    · have h4 := (h3 hp).2.2
      exact cd_dig _ (by omega)
    · unfold fp at hk
      rw [if_neg hp] at hk
      exact absurd hk (Nat.not_lt_zero _)
theorem bN_app_l {a b : ByteArray} {k : Nat} (h : k < a.size) : bN (a ++ b) k = bN a k := by
  unfold bN
  rw [ByteArray.data_append, Array.toList_append, List.getD_eq_getElem?_getD, List.getD_eq_getElem?_getD, List.getElem?_append_left (by rw [size_list]; exact h)]
theorem bN_app_r {a b : ByteArray} {k : Nat} (h : a.size ≤ k) : bN (a ++ b) k = bN b (k - a.size) := by
  unfold bN
  rw [ByteArray.data_append, Array.toList_append, List.getD_eq_getElem?_getD, List.getD_eq_getElem?_getD, List.getElem?_append_right (by rw [size_list]; exact h), size_list]
theorem app_dig {a b : ByteArray} (ha : ∀ k, k < a.size → dig (bN a k)) (hb : ∀ k, k < b.size → dig (bN b k)) : ∀ k, k < (a ++ b).size → dig (bN (a ++ b) k) := by
  intro k hk
  rw [ByteArray.size_append] at hk
  by_cases h : k < a.size
  · rw [bN_app_l h]; exact ha k h
  · rw [bN_app_r (by omega)]; exact hb _ (by omega)
theorem zeros_dig (d : Nat) : ∀ k, k < (str (by8 (List.replicate d 48))).size → dig (bN (str (by8 (List.replicate d 48))) k) := by
  intro k hk
  rw [str_size, by8_len, List.length_replicate] at hk
  rw [bN_by8 _ (fun x hx => by rw [List.eq_of_mem_replicate hx]; decide) k (by rw [List.length_replicate]; exact hk)]
  rw [List.getD_eq_getElem?_getD, List.getElem?_replicate, if_pos hk]
  decide
theorem parts_size {s : ByteArray} : (ip (body s)).size ≤ s.size ∧ (fp (body s)).size ≤ s.size ∧ (ip (body s)).size + (fp (body s)).size ≤ s.size := by
  have hb : (body s).size ≤ s.size := by
    unfold body; split
    · rw [size_extract _ _ _ (Nat.le_refl _)]; omega
    · exact Nat.le_refl _
  have h1 := cd_le (body s)
  have hi : (ip (body s)).size = cd (body s) := by unfold ip; rw [size_extract _ _ _ h1]; omega
  have hf : (fp (body s)).size ≤ (body s).size - cd (body s) := by
    unfold fp; split
    · rw [size_extract _ _ _ (Nat.le_refl _)]; omega
    · exact Nat.zero_le _
  omega
/-- What is great without zeros is great with them. -/
theorem big_grow (s : ByteArray) (k : Nat) : vl (ip (body s) ++ fp (body s)) ≤ big s k := by
  unfold big
  have := pow_pos' (k - (fp (body s)).size)
  calc vl (ip (body s) ++ fp (body s)) = vl (ip (body s) ++ fp (body s)) * 1 := (Nat.mul_one _).symm
    _ ≤ _ := Nat.mul_le_mul_left _ this
/-- More than 18 digits in front of the point: great. -/
theorem big_long {s : ByteArray} (h : okF s) (hl : 18 < (ip (body s)).size) (k : Nat) : 999999999999999999 < big s k := by
  have hd := (parts_dig h).1 0 (by omega)
  have hi : (ip (body s)).size = cd (body s) := by unfold ip; rw [size_extract _ _ _ (cd_le _)]; omega
  have h0 : ¬ bN (ip (body s)) 0 = 48 := by
    intro h0
    refine h.1.2.1 ⟨by omega, ?_⟩
    unfold ip at h0
    rw [bN_extract _ _ _ _ (by omega)] at h0
    simpa using h0
  have h1 := vl_head (t := ip (body s)) (by omega) hd h0
  have h2 : 10 ^ 18 ≤ 10 ^ ((ip (body s)).size - 1) := Nat.pow_le_pow_right (by decide) (by omega)
  have h3 : vl (ip (body s)) ≤ vl (ip (body s) ++ fp (body s)) := by
    rw [vl_app]
    have h4 := nmF_ge (vl (ip (body s))) (cut (fp (body s)) 0 (fp (body s)).size)
    have h5 := pow_pos' (cut (fp (body s)) 0 (fp (body s)).size).length
    have h6 := Nat.mul_le_mul_left (vl (ip (body s))) h5
    omega
  have h4 := big_grow s k
  omega
theorem sgn_abs (b : Bool) (v : Nat) : (sgn b v).natAbs = v := by unfold sgn; split <;> omega
theorem sgn_mul (b : Bool) (v d : Nat) : sgn b v * ((10 ^ d : Nat) : Int) = sgn b (v * 10 ^ d) := by
  unfold sgn
  split
  · push_cast; rw [Int.neg_mul]
  · push_cast; rfl
end Go.DC
namespace Go.Proofs.Ytidlemedkjkmdaa
open Go.RowKit Go.VB Go.DT Go.DC
theorem num3 {v v' : Value} {c c' : Value} (h : v = v') (h2 : c = c') : Value.tuple #[v, c] = .tuple #[v', c'] := by rw [h, h2]
set_option maxRecDepth 100000 in
set_option maxHeartbeats 4000000 in
theorem rdparse_any (s : ByteArray) (k : Int) (w : World) (zs : s.size ≤ 140737488351232) : Calls Try.prog 37 #[.string s, .int .i64 k] w (RetB (.tuple #[.int .i64 (PN s k), .int .i64 (PC s k : Nat)]) w) := by
  have hF := fun w => Lib.hid (rform_any s w zs)
  by_cases hk : okS k
  · have hk' := hk
    unfold okS at hk'
    obtain ⟨k, rfl⟩ := Int.eq_ofNat_of_zero_le hk'.1
    have hk18 : k ≤ 18 := by omega
    clear hk'
    by_cases hok : okF s
    · have hdg := parts_dig hok
      have hps := parts_size (s := s)
      have hbl := fun h => big_long hok h k
      have hfi : fitsD s k ↔ (fp (body s)).size ≤ k ∧ big s k ≤ 999999999999999999 := Iff.rfl
      have hbg : big s k = vl (ip (body s) ++ fp (body s)) * 10 ^ (k - (fp (body s)).size) := rfl
      have hPN := PN_in (s := s) (k := (k : Int)) hk hok
      have hPC := PC_in (s := s) (k := (k : Int)) hk hok
      have hPNo := PN_over (s := s) (k := (k : Int))
      have hPCo := PC_over (s := s) (k := (k : Int)) hk hok
      rw [Int.toNat_natCast] at hPN hPC hPNo hPCo
      have HPN := Lib.hid hPN; have HPC := Lib.hid hPC; have HPNo := Lib.hid hPNo; have HPCo := Lib.hid hPCo; have HBL := Lib.hid hbl; have HFI := Lib.hid hfi; have HBG := Lib.hid hbg; have HDG := Lib.hid hdg; have HOKF := Lib.hid hok
      clear hPN hPC hPNo hPCo hbl hfi hbg hdg hok hk
      go_enter Try.func37, Try.ntmps37
      go_wp2_with fail
      refine (hF _).out.mono ?_
      rintro e w1 ⟨hb1, ⟨_, rfl⟩ | ⟨hno, _⟩⟩
      case inr => exact absurd HOKF.out hno
      generalize ip (body s) = I at *
      generalize fp (body s) = G at *
      by_cases hG : k < G.size
      · have hn := HPNo.out fun h => absurd (HFI.out.1 h).1 (by omega)
        have hc := HPCo.out fun h => absurd (HFI.out.1 h).1 (by omega)
        have HN := Lib.hid hn; have HC := Lib.hid hc; clear hn hc
        go_wp2
        go_ret2
        exact RetB.mk (by rw [HN.out, HC.out]; rfl) hb1
      by_cases hI : 18 < I.size
      · have hbig := HBL.out hI
        have hn := HPNo.out fun h => absurd (HFI.out.1 h).2 (by omega)
        have hc := HPCo.out fun h => absurd (HFI.out.1 h).2 (by omega)
        have HN := Lib.hid hn; have HC := Lib.hid hc; clear hn hc hbig
        go_wp2
        go_ret2
        exact RetB.mk (by rw [HN.out, HC.out]; rfl) hb1
      have hA := ByteArray.size_append (a := I) (b := G)
      have hAd := app_dig HDG.out.1 HDG.out.2
      have hv0 := fun d => vl_zeros (I ++ G) d
      have HAD := Lib.hid hAd; have HV0 := Lib.hid hv0; have HSA := Lib.hid hA; clear hAd hv0
      clear hA
      go_wp2
      go_loop [11] (fun t => ∃ j : Nat, t = .string (I ++ G ++ str (by8 (List.replicate j 48))) ∧ G.size + j ≤ k) (fun t => 40 - szOf t)
      case atStart => exact ⟨0, congrArg Value.string (ByteArray.append_empty (b := I ++ G)).symm, by omega⟩
      case round =>
        obtain ⟨j, rfl, hj⟩ := hrel
        have hsz : (I ++ G ++ str (by8 (List.replicate j 48))).size = I.size + G.size + j := by rw [ByteArray.size_append, ByteArray.size_append, str_size, by8_len, List.length_replicate]
        have hnx : I ++ G ++ str (by8 (List.replicate j 48)) ++ ⟨#[48]⟩ = I ++ G ++ str (by8 (List.replicate (j + 1) 48)) := by
          rw [show (⟨#[48]⟩ : ByteArray) = str (by8 [48]) from rfl, ByteArray.append_assoc, cat_by8, ← List.replicate_succ']
        have hTd := app_dig HAD.out (zeros_dig j)
        have hTv := HV0.out j
        have HTD := Lib.hid hTd; have HTV := Lib.hid hTv; have HNX := Lib.hid hnx; clear hTd hTv hnx
        generalize hT : I ++ G ++ str (by8 (List.replicate j 48)) = T at *
        have HT := Lib.hid hT; clear hT
        by_cases hlt : G.size + j < k
        · have hs1 : T.size ≤ I.size + G.size + j := Nat.le_of_eq hsz
          have hs2 : I.size + G.size + j ≤ T.size := Nat.le_of_eq hsz.symm
          have HSZ := Lib.hid hsz; clear hsz
          go_wp2
          exact ⟨⟨j + 1, by rw [HNX.out], by omega⟩, by
            have h1 : (T ++ (⟨#[48]⟩ : ByteArray)).size = T.size + 1 := by rw [ByteArray.size_append]; rfl
            show 40 - (T ++ (⟨#[48]⟩ : ByteArray)).size < 40 - T.size
            omega⟩
        · have hs1 : T.size ≤ I.size + G.size + j := Nat.le_of_eq hsz
          have hs2 : I.size + G.size + j ≤ T.size := Nat.le_of_eq hsz.symm
          have hjk : k - G.size = j := by omega
          have hvT : vl T = big s k := by rw [HBG.out, hjk, HTV.out]
          have HVT := Lib.hid hvT; clear hjk hvT hsz
          have hbT := get_bN T
          go_wp2
          go_loop [10, 12] (fun n i => ∃ j : Nat, n = .int .i64 (nm T 0 j : Nat) ∧ i = .int .i64 j ∧ j ≤ T.size ∧ nm T 0 j ≤ 999999999999999999) (fun _ i => T.size - (intOf i).toNat)
          case atStart => exact ⟨0, rfl, rfl, Nat.zero_le _, Nat.zero_le _⟩
          case round =>
            obtain ⟨i, rfl, rfl, hi, hle⟩ := hrel
            by_cases hlt2 : i < T.size
            · have hix := HTD.out i hlt2
              unfold dig at hix
              have hs := nm_succ T 0 i (by omega)
              rw [Nat.zero_add] at hs
              have HB := fun h => Lib.hid (vl_big (t := T) hlt2 h)
              have hgi := hbT i
              generalize hV : bN T i = V at *
              generalize nm T 0 i = x at *
              by_cases h1 : 99999999999999999 < x
              · have hbig := (HB h1).out
                rw [HVT.out] at hbig
                have hn := HPNo.out fun h => absurd (HFI.out.1 h).2 (by omega)
                have hc := HPCo.out fun h => absurd (HFI.out.1 h).2 (by omega)
                have HN := Lib.hid hn; have HC := Lib.hid hc; clear hn hc hbig HB hs
                go_wp2
                go_ret2
                exact RetB.mk (by rw [HN.out, HC.out]; rfl) hb1
              · have HS := Lib.hid hs
                clear HB hs
                go_wp2
                go_round
                case rel => exact ⟨i + 1, by rw [HS.out]; go_num, by go_num, hlt2, by rw [HS.out]; omega⟩
                case measure => simp [intOf] <;> omega
            · have hi2 : i = T.size := by omega
              have hv : nm T 0 i = big s k := by rw [hi2, ← HVT.out]; rfl
              have hfit : fitsD s k := HFI.out.2 ⟨by omega, by rw [← hv]; exact hle⟩
              have hn := HPN.out hfit
              have hc := HPC.out hfit
              rw [← hv] at hn
              have HN := Lib.hid hn; have HC := Lib.hid hc; clear hn hc hi2 hv hfit
              generalize nm T 0 i = x at *
              generalize hbb : ngb s = b at *
              cases b
              · go_wp2
                go_ret2
                exact RetB.mk (by rw [HN.out, HC.out]; rfl) hb1
              · go_wp2
                go_ret2
                exact RetB.mk (by rw [HN.out, HC.out]; rfl) hb1
    · have HN := Lib.hid (PN_form (s := s) (k := (k : Int)) hok); have HC := Lib.hid (PC_form hk hok)
      have HOKF := Lib.hid hok
      clear hk hok
      go_enter Try.func37, Try.ntmps37
      go_wp2_with fail
      refine (hF _).out.mono ?_
      rintro e w1 ⟨hb1, ⟨hno, _⟩ | ⟨_, b, i, f, rfl⟩⟩
      case inl => exact absurd hno HOKF.out
      go_wp2
      go_ret2
      exact RetB.mk (by rw [HN.out, HC.out]; rfl) hb1
  · have HN := Lib.hid (PN_range (s := s) hk); have HC := Lib.hid (PC_range (s := s) hk)
    unfold okS at hk
    by_cases h0 : k < 0
    · clear hk
      go_enter Try.func37, Try.ntmps37
      go_wp2
      go_ret2
      exact RetB.mk (by rw [HN.out, HC.out]; rfl) (Below.refl _ _)
    · have h1 : 18 < k := by omega
      clear hk
      go_enter Try.func37, Try.ntmps37
      go_wp2
      go_ret2
      exact RetB.mk (by rw [HN.out, HC.out]; rfl) (Below.refl _ _)
end Go.Proofs.Ytidlemedkjkmdaa
