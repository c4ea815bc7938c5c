/- Plain facts on the texts that are written: what is read from them. -/
import Derived.Test.YtidlemedkjkmdaaDoorDecW8
namespace Go.DC
open Go.VB Go.DT
theorem cut_by8 (L : List Nat) (i j : Nat) : (str (by8 L)).extract i j = str (by8 ((L.drop i).take (j - i))) := by
  rw [extract_str, str_toList]
  unfold by8
  rw [List.map_take, List.map_drop]
theorem by8_size (L : List Nat) : (str (by8 L)).size = L.length := by rw [str_size, by8_len]
theorem getD_left {L M : List Nat} {k : Nat} (h : k < L.length) : (L ++ M).getD k 0 = L.getD k 0 := by
  rw [List.getD_eq_getElem?_getD, List.getD_eq_getElem?_getD, List.getElem?_append_left h]
theorem getD_mem {L : List Nat} {k : Nat} (h : k < L.length) : L.getD k 0 ∈ L := by
  rw [List.getD_eq_getElem?_getD, List.getElem?_eq_getElem h]; exact List.getElem_mem h
theorem dg_dig (v n k : Nat) (h : k < n) : dig (bN (str (by8 (dg v n))) k) := by
  rw [bN_by8 _ (fun x hx => by have := dg_lt v n x hx; omega) k (by rw [dg_len]; exact h)]
  exact dg_lt v n _ (getD_mem (by rw [dg_len]; exact h))
theorem wt_lt (m k : Nat) : ∀ x ∈ whole m k ++ tail m k, x < 256 := by
  intro x hx
  rw [List.mem_append] at hx
  rcases hx with hx | hx
  · exact whole_lt _ _ x hx
  · exact tail_lt _ _ x hx
theorem wn_pos (m k : Nat) : 1 ≤ wn m k := Nat.le_max_left _ _
theorem whole_first (m k : Nat) : ∃ l, whole m k = (48 + m / 10 ^ k / 10 ^ (wn m k - 1) % 10) :: l := by
  unfold whole
  obtain ⟨w, hw⟩ : ∃ w, wn m k = w + 1 := ⟨wn m k - 1, by have := wn_pos m k; omega⟩
  rw [hw, Nat.add_sub_cancel]
  exact ⟨_, rfl⟩
/-- The text behind the sign. -/
def wt (m k : Nat) : ByteArray := str (by8 (whole m k ++ tail m k))
theorem wt_first (m k : Nat) : bN (wt m k) 0 = 48 + m / 10 ^ k / 10 ^ (wn m k - 1) % 10 := by
  obtain ⟨l, hl⟩ := whole_first m k
  unfold wt
  rw [bN_by8 _ (wt_lt m k) 0 (by rw [hl]; simp), hl]
  rfl
theorem wt_size (m k : Nat) : (wt m k).size = wn m k + (tail m k).length := by
  unfold wt; rw [by8_size, List.length_append, whole_len]
theorem tail_len0 (m : Nat) : (tail m 0).length = 0 := rfl
theorem tail_lenS {m k : Nat} (h : k ≠ 0) : (tail m k).length = k + 1 := by unfold tail; rw [if_neg h, List.length_cons, dg_len]
theorem wt_point {m k : Nat} (h : k ≠ 0) : bN (wt m k) (wn m k) = 46 := by
  unfold wt
  rw [bN_by8 _ (wt_lt m k) _ (by rw [List.length_append, whole_len, tail_lenS h]; omega), List.getD_eq_getElem?_getD, List.getElem?_append_right (by rw [whole_len]; exact Nat.le_refl _), whole_len, Nat.sub_self]
  unfold tail; rw [if_neg h]; rfl
theorem wt_cd (m k : Nat) : cd (wt m k) = wn m k := by
  refine cd_eq (by rw [wt_size]; omega) (fun i hi => ?_) ?_
  · unfold wt
    rw [bN_by8 _ (wt_lt m k) i (by rw [List.length_append, whole_len]; omega), getD_left (by rw [whole_len]; exact hi)]
    exact dg_lt _ _ _ (getD_mem (by rw [dg_len]; exact hi))
  · by_cases hk : k = 0
    · left; subst hk; rw [wt_size, tail_len0]; rfl
    · right; rw [wt_point hk]; decide
theorem wt_ip (m k : Nat) : ip (wt m k) = str (by8 (whole m k)) := by
  unfold ip
  rw [wt_cd]
  unfold wt
  rw [cut_by8, List.drop_zero, Nat.sub_zero, List.take_left' (whole_len m k)]
theorem wt_fp (m k : Nat) : fp (wt m k) = str (by8 (dg m k)) := by
  unfold fp
  rw [wt_cd, wt_size]
  by_cases hk : k = 0
  · subst hk; rw [tail_len0, if_neg (by omega)]; rfl
  · rw [if_pos (by rw [tail_lenS hk]; omega)]
    unfold wt
    rw [cut_by8]
    congr 2
    rw [List.drop_append, whole_len, List.drop_of_length_le (by rw [whole_len]; omega), List.nil_append, show wn m k + 1 - wn m k = 1 from by omega, tail_lenS hk]
    unfold tail
    rw [if_neg hk, List.drop_one, List.tail_cons, List.take_of_length_le]
    rw [dg_len]; omega
theorem wt_vl (m k : Nat) : vl (ip (wt m k) ++ fp (wt m k)) = m := by
  rw [wt_ip, wt_fp, cat_by8, vl_str _ (fun x hx => by
    rw [List.mem_append] at hx
    rcases hx with hx | hx
    · exact whole_lt _ _ x hx
    · have := dg_lt m k x hx; omega), nmF_app]
  have h1 : nmF 0 (whole m k) = m / 10 ^ k := nmF_dg _ _ 0 (div_pow_zero.2 (show len (m / 10 ^ k) ≤ wn m k from Nat.le_max_right _ _)).symm
  rw [h1]
  exact nmF_dg m k _ rfl
theorem wt_ok (m k : Nat) : okB (wt m k) := by
  refine ⟨by rw [wt_cd]; have := wn_pos m k; omega, fun ⟨h1, h2⟩ => ?_, fun hlt => ?_⟩
  · rw [wt_cd] at h1
    rw [wt_first] at h2
    have hw : wn m k = len (m / 10 ^ k) := by unfold wn at h1 ⊢; omega
    have h3 : m / 10 ^ k < 10 ^ wn m k := (len_le _ _).2 (by omega)
    have h4 : ¬ m / 10 ^ k < 10 ^ (wn m k - 1) := fun h => by have := (len_le _ _).1 h; omega
    rw [show wn m k = (wn m k - 1) + 1 from by omega, Nat.pow_succ] at h3
    have h5 : m / 10 ^ k / 10 ^ (wn m k - 1) < 10 := by
      rw [Nat.div_lt_iff_lt_mul (pow_pos' _), Nat.mul_comm]; exact h3
    have h6 : 1 ≤ m / 10 ^ k / 10 ^ (wn m k - 1) := by
      rw [Nat.le_div_iff_mul_le (pow_pos' _), Nat.one_mul]; omega
    omega
  · rw [wt_cd, wt_size] at hlt
    have hk : k ≠ 0 := fun h => by subst h; rw [tail_len0] at hlt; omega
    rw [wt_cd, wt_fp, by8_size, dg_len]
    refine ⟨wt_point hk, hk, cd_eq (by rw [by8_size, dg_len]; exact Nat.le_refl _) (fun i hi => dg_dig m k i hi) (.inl (by rw [by8_size, dg_len]))⟩
theorem ft_parts (n : Int) (k : Nat) : ngb (str (by8 (ft n k))) = decide (n < 0) ∧ body (str (by8 (ft n k))) = wt n.natAbs k := by
  by_cases h : n < 0
  · have hL : ft n k = 45 :: (whole n.natAbs k ++ tail n.natAbs k) := by unfold ft sign; rw [if_pos h]; rfl
    have hg : ngb (str (by8 (ft n k))) = true := by
      refine ngb_of (by rw [by8_size, hL]; simp) ?_
      rw [bN_by8 _ (ft_lt n k) 0 (by rw [hL]; simp), hL]; rfl
    refine ⟨by rw [hg, decide_eq_true h], ?_⟩
    unfold body
    rw [hg, if_pos rfl, cut_by8, by8_size, hL, List.drop_one, List.tail_cons, List.length_cons, Nat.add_sub_cancel, List.take_of_length_le (Nat.le_refl _)]
    rfl
  · have hL : ft n k = whole n.natAbs k ++ tail n.natAbs k := by unfold ft sign; rw [if_neg h]; rfl
    have hw : str (by8 (ft n k)) = wt n.natAbs k := by rw [hL]; rfl
    have hg : ngb (str (by8 (ft n k))) = false := by
      refine ngb_not fun hh => ?_
      rw [hw, wt_first] at hh
      omega
    refine ⟨by rw [hg, decide_eq_false h], ?_⟩
    unfold body
    rw [hg, if_neg (by decide), hw]
theorem sgn_int (n : Int) (p : Nat) : sgn (decide (n < 0)) (n.natAbs * p) = n * (p : Int) := by
  by_cases h : n < 0
  · rw [decide_eq_true h]
    show -(((n.natAbs * p : Nat)) : Int) = _
    rw [show n = -(n.natAbs : Int) from by omega, Int.natAbs_neg, Int.natAbs_natCast, Int.neg_mul]
    push_cast; rfl
  · rw [decide_eq_false h]
    show (((n.natAbs * p : Nat)) : Int) = _
    push_cast
    rw [show ((n.natAbs : Nat) : Int) = n from by omega]
theorem ft_okF (n : Int) (k : Nat) : okF (str (by8 (ft n k))) := by
  obtain ⟨h1, h2⟩ := ft_parts n k
  refine ⟨by rw [h2]; exact wt_ok _ _, fun h => ?_⟩
  rw [h1, h2] at h
  have hn : n < 0 := of_decide_eq_true h.1
  have h3 : allz (ip (wt n.natAbs k) ++ fp (wt n.natAbs k)) = true := by rw [allz_app, h.2.1, h.2.2]; rfl
  have h4 := allz_vl h3
  rw [wt_vl] at h4
  omega
theorem ft_big (n : Int) (k d : Nat) : (fp (body (str (by8 (ft n k))))).size = k ∧ big (str (by8 (ft n k))) (k + d) = n.natAbs * 10 ^ d := by
  have h2 := (ft_parts n k).2
  have h3 : (fp (body (str (by8 (ft n k))))).size = k := by rw [h2, wt_fp, by8_size, dg_len]
  refine ⟨h3, ?_⟩
  unfold big
  rw [h3, h2, wt_vl, show k + d - k = d from by omega]
/-- What is read from a text with a greater scale. -/
theorem read_ft {n : Int} (hn : okN n) (a d : Nat) (h : a + d ≤ 18) : PN (str (by8 (ft n a))) ((a : Int) + (d : Int)) = oV (resc n a ((a : Int) + (d : Int))) ∧ PC (str (by8 (ft n a))) ((a : Int) + (d : Int)) = oC (resc n a ((a : Int) + (d : Int))) := by
  have hS : okS ((a : Int) + (d : Int)) := by unfold okS; omega
  have hr : resc n a ((a : Int) + (d : Int)) = if n.natAbs * 10 ^ d ≤ 999999999999999999 then some (n * ((10 ^ d : Nat) : Int)) else none := by
    unfold resc
    rw [if_pos (by omega), show ((a : Int) + (d : Int) - (a : Int)).toNat = d from by omega]
    exact up_eq d n (okN_abs.1 hn)
  have hT : ((a : Int) + (d : Int)).toNat = a + d := by omega
  obtain ⟨hb1, hb2⟩ := ft_big n a d
  have hf : fitsD (str (by8 (ft n a))) (a + d) ↔ n.natAbs * 10 ^ d ≤ 999999999999999999 := by
    unfold fitsD
    rw [hb1, hb2]
    exact ⟨fun h => h.2, fun h => ⟨by omega, h⟩⟩
  by_cases hfit : n.natAbs * 10 ^ d ≤ 999999999999999999
  · rw [hr, if_pos hfit, PN_in hS (ft_okF n a) (by rw [hT]; exact hf.2 hfit), PC_in hS (ft_okF n a) (by rw [hT]; exact hf.2 hfit), hT, hb2, (ft_parts n a).1, sgn_int]
    exact ⟨rfl, rfl⟩
  · rw [hr, if_neg hfit, PN_over (by rw [hT]; exact fun h => hfit (hf.1 h)), PC_over hS (ft_okF n a) (by rw [hT]; exact fun h => hfit (hf.1 h))]
    exact ⟨rfl, rfl⟩
theorem read_same {n : Int} (hn : okN n) (a : Nat) (h : a ≤ 18) : PN (str (by8 (ft n a))) (a : Int) = n ∧ PC (str (by8 (ft n a))) (a : Int) = 0 := by
  have hr := read_ft hn a 0 (by omega)
  rw [show ((a : Int) + ((0 : Nat) : Int)) = (a : Int) from by omega] at hr
  have e : resc n a a = some n := by
    unfold resc
    rw [if_pos (Int.le_refl _), show ((a : Int) - (a : Int)).toNat = 0 from by omega]; rfl
  rw [e] at hr
  exact hr
end Go.DC
