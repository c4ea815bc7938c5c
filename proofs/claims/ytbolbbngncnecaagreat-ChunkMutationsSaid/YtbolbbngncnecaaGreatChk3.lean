/- Chunks: what was encoded is read again. -/
import Derived.Test.YtbolbbngncnecaaGreatChk2
namespace Go.CK
open Go.RowKit Go.VB Go.VarM Go.BP Go.RL Go.VS Go.VL Go.NU Go.Proofs.YtbolbbngncnecaaGreat
theorem ones_bmp_take (l : List Bool) : ∀ i, i ≤ l.length → ones (num (bmp l)) i = (l.take i).count true
  | 0, _ => rfl
  | i + 1, h => by
    have hx : l[i]? = some (l[i]'(by omega)) := List.getElem?_eq_getElem _
    rw [ones_succ, ones_bmp_take l i (by omega), bit_bmp hx, List.take_add_one, hx, List.count_append]
    congr 1
    cases l[i] <;> rfl
theorem ones_bmp (l : List Bool) : ones (num (bmp l)) (8 * ((l.length + 7) / 8)) = l.count true := by
  obtain ⟨d, hd⟩ : ∃ d, 8 * ((l.length + 7) / 8) = l.length + d := ⟨8 * ((l.length + 7) / 8) - l.length, by omega⟩
  rw [hd, ones_add, Nat.div_eq_of_lt (by rw [bmp_num]; exact bmp_big l), ones_none, Nat.add_zero, ones_bmp_take l _ (Nat.le_refl _), List.take_length]
theorem fin_back {typ : Int} {nu : Bool} {l : List Vl} (hT : okT typ = true) (hv : ∀ x ∈ l, chkV typ nu x = 0) : fin typ nu (marks l) (some' l) = some l := by
  have hw := weave_back l (fun x hx h => chk_null hT (hv x hx) h)
  unfold fin
  rw [hw, if_pos hv]
theorem some_pure {typ : Int} {nu : Bool} {l : List Vl} (hT : okT typ = true) (hv : ∀ x ∈ l, chkV typ nu x = 0) (hb : ∀ x ∈ l, -9223372036854775808 ≤ x.n ∧ x.n ≤ 9223372036854775807) : ∀ x ∈ some' l, pure' typ x := by
  intro x hx
  obtain ⟨h1, h2⟩ := List.mem_filter.1 hx
  exact chk_pure hT (hv x h1) (by simpa using h2) (hb x h1)
theorem u8_small {n : Nat} (h : n < 256) : (UInt8.ofNat n).toNat = n := by rw [UInt8.toNat_ofNat']; omega
set_option maxRecDepth 4000 in
/-- What was written is read. -/
theorem body_enc {typ : Int} {codec : Nat} {nu : Bool} {l : List Vl} (hT : okT typ = true) (hu : uses typ codec = true) (hl : l.length ≤ 4096) (hv : ∀ x ∈ l, chkV typ nu x = 0) (hb : ∀ x ∈ l, -9223372036854775808 ≤ x.n ∧ x.n ≤ 9223372036854775807) :
    bodyD typ nu (str (bodyB typ codec l)) = some l := by
  have hc : codec ≤ 4 := by
    unfold uses at hu
    split at hu <;> (rw [decide_eq_true_iff] at hu; omega)
  have hsl := some_len l
  have hsp := some_pure hT hv hb
  have hpay := payD_enc hu (by omega) hsp
  have hfin := fin_back (nu := nu) hT hv
  obtain ⟨k, hk⟩ : ∃ k, l.length - (some' l).length = k := ⟨_, rfl⟩
  obtain ⟨M, hM⟩ : ∃ M : List UInt8, (if (some' l).length < l.length then (bmp (marks l)).data.toList else []) = M := ⟨_, rfl⟩
  obtain ⟨S, hS⟩ : ∃ S, str (bodyB typ codec l) = S := ⟨_, rfl⟩
  have hL : S.data.toList = [UInt8.ofNat codec] ++ putL l.length ++ putL k ++ M ++ payB typ codec (some' l) := by
    rw [← hS, str_toList]; unfold bodyB; rw [hM, hk, Int.toNat_natCast]
  have hg1 := getR_put (s := S) (a := [UInt8.ofNat codec]) (r := putL k ++ M ++ payB typ codec (some' l)) (n := l.length) (by omega) (by rw [hL]; simp only [List.append_assoc])
  have hg2 := getR_put (s := S) (a := [UInt8.ofNat codec] ++ putL l.length) (r := M ++ payB typ codec (some' l)) (n := k) (by omega) (by rw [hL]; simp only [List.append_assoc])
  have h0 : bN S 0 = codec := by
    rw [← hS]; unfold bodyB
    rw [Int.toNat_natCast]
    show (UInt8.ofNat codec).toNat = codec
    exact u8_small (by omega)
  rw [hS]
  unfold bodyD
  rw [show ((1 : Int)) = (([UInt8.ofNat codec].length : Nat) : Int) from rfl, hg1, h0, if_neg (by simp [hu]; omega)]
  simp only
  rw [hg2, if_neg (by simp; omega)]
  simp only [Int.toNat_natCast]
  generalize hP : [UInt8.ofNat codec] ++ putL l.length ++ putL k = Q at *
  have hsz : S.size = (Q ++ M).length + (payB typ codec (some' l)).length := by rw [← size_list, hL, List.length_append]
  have hSe : S = str (Q ++ M ++ payB typ codec (some' l)) := by rw [← hL, str_of]
  unfold tailD
  by_cases hk0 : k = 0
  · have hse : (some' l).length = l.length := by omega
    have hM0 : M = [] := by rw [← hM, if_neg (by omega)]
    subst hM0
    have hex : S.extract Q.length S.size = str (payB typ codec (some' l)) := by
      have := extract_app Q (payB typ codec (some' l))
      rw [hSe, str_size]
      simpa using this
    rw [if_pos hk0, hex, ← hse, hpay, ← (show marks l = List.replicate (some' l).length false from by rw [hse]; exact marks_none hse)]
    exact hfin
  · have hlt : (some' l).length < l.length := by omega
    rw [if_pos hlt] at hM
    have hMl : M.length = (l.length + 7) / 8 := by rw [← hM, size_list, bmp_size, marks_len]
    have hex1 : S.extract Q.length (Q.length + (l.length + 7) / 8) = bmp (marks l) := by
      rw [extract_str, hL, List.append_assoc, List.drop_left, show Q.length + (l.length + 7) / 8 - Q.length = M.length from by rw [hMl]; omega, List.take_left, ← hM, str_of]
    have hex2 : S.extract (Q.length + (l.length + 7) / 8) S.size = str (payB typ codec (some' l)) := by
      have := extract_app (Q ++ M) (payB typ codec (some' l))
      rw [List.length_append, hMl] at this
      rw [hSe, str_size]
      exact this
    have hup := upk_bmp (l := marks l) (by rw [marks_len]; exact hl)
    rw [marks_len] at hup
    have hon := ones_bmp (marks l)
    rw [marks_len, marks_count, hk] at hon
    rw [if_neg hk0, if_neg (by rw [hsz, List.length_append, hMl]; omega), hex1, hex2, hup, hon, if_neg (by simp), show l.length - k = (some' l).length from by omega, hpay]
    exact hfin
theorem decC_build {typ : Int} {codec : Nat} {nu : Bool} {l : List Vl} (hT : okT typ = true) (hu : uses typ codec = true) (hl : l.length ≤ 4096) (hv : ∀ x ∈ l, chkV typ nu x = 0) (hb : ∀ x ∈ l, -9223372036854775808 ≤ x.n ∧ x.n ≤ 9223372036854775807) :
    decC typ nu (str (buildB typ codec l)) = (l, 0) := by
  have h1 : 1 ≤ (bodyB typ codec l).length := by unfold bodyB; simp only [List.length_append, List.length_cons, List.length_nil]; omega
  have hs := sound_build (bodyB typ codec l) h1
  have hx : (str (buildB typ codec l)).extract 0 ((str (buildB typ codec l)).size - 4) = str (bodyB typ codec l) := by
    unfold buildB
    rw [str_size, List.length_append, show (four (crcL (bodyB typ codec l))).length = 4 from rfl, extract_str, str_toList, List.drop_zero, show (bodyB typ codec l).length + 4 - 4 - 0 = (bodyB typ codec l).length from by omega, List.take_left]
  unfold decC
  rw [hT, if_neg (by simp), show soundN (str (buildB typ codec l)) = 0 from hs, if_neg (by simp), hx, body_enc hT hu hl hv hb]
end Go.CK
