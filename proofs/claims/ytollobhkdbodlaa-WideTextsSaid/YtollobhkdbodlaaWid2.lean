/- Plain facts on the texts of whole numbers of 128 bits: digits, the form, what is read. -/
import Derived.Test.YtollobhkdbodlaaWid
namespace Go.WD
open Go.RowKit Go.VB Go.DT Go.DC
/-! ### digits from their end -/
theorem dg_snoc (v n : Nat) : dg v (n + 1) = dg (v / 10) n ++ [48 + v % 10] := by
  induction n with
  | zero => simp [dg]
  | succ n ih =>
    rw [dg, ih, dg, List.cons_append, Nat.div_div_eq_div_mul, ← Nat.pow_succ']
/-- A list of digits is told by its number and its length. -/
theorem dg_of : ∀ (n : Nat) (l : List Nat), l.length = n → (∀ x ∈ l, 48 ≤ x ∧ x ≤ 57) → l = dg (nmF 0 l) n := by
  intro n
  induction n with
  | zero => intro l hl _; rw [List.eq_nil_of_length_eq_zero hl]; rfl
  | succ n ih =>
    intro l hl hd
    have hne : l ≠ [] := fun h => by rw [h] at hl; cases hl
    have hs := (List.dropLast_concat_getLast hne).symm
    generalize l.dropLast = m at hs
    generalize l.getLast hne = x at hs
    subst hs
    have hm : m.length = n := by simpa using hl
    have hx := hd x (by simp)
    have h1 := ih m hm (fun y hy => hd y (by simp [hy]))
    rw [nmF_snoc, dg_snoc, show (nmF 0 m * 10 + (x - 48)) / 10 = nmF 0 m from by omega, show 48 + (nmF 0 m * 10 + (x - 48)) % 10 = x from by omega, ← h1]
theorem nmF_lt : ∀ (l : List Nat), (∀ x ∈ l, 48 ≤ x ∧ x ≤ 57) → nmF 0 l < 10 ^ l.length := by
  intro l
  generalize hn : l.length = n
  induction n generalizing l with
  | zero => intro _; rw [List.eq_nil_of_length_eq_zero hn]; decide
  | succ n ih =>
    intro hd
    have hne : l ≠ [] := fun h => by rw [h] at hn; cases hn
    have hs := (List.dropLast_concat_getLast hne).symm
    generalize l.dropLast = m at hs
    generalize l.getLast hne = x at hs
    subst hs
    have hm : m.length = n := by simpa using hn
    have hx := hd x (by simp)
    have h1 := ih m hm (fun y hy => hd y (by simp [hy]))
    rw [nmF_snoc, Nat.pow_succ]
    omega
/-! ### texts of digits -/
/-- All bytes are digits. -/
def digsT (s : ByteArray) : Prop := ∀ k, k < s.size → dig (bN s k)
instance (s : ByteArray) : Decidable (digsT s) := by unfold digsT; infer_instance
def bys (s : ByteArray) : List Nat := s.data.toList.map UInt8.toNat
theorem bys_len (s : ByteArray) : (bys s).length = s.size := by unfold bys; rw [List.length_map, size_list]
theorem bys_get (s : ByteArray) (k : Nat) (h : k < s.size) : (bys s)[k]'(by rw [bys_len]; exact h) = bN s k := by
  unfold bys bN
  rw [List.getElem_map, List.getD_eq_getElem?_getD, List.getElem?_eq_getElem (by rw [size_list]; exact h)]
  rfl
theorem digs_mem {s : ByteArray} (h : digsT s) : ∀ x ∈ bys s, 48 ≤ x ∧ x ≤ 57 := by
  intro x hx
  obtain ⟨k, hk, rfl⟩ := List.getElem_of_mem hx
  rw [bys_len] at hk
  rw [bys_get s k hk]
  exact h k hk
theorem vl_bys (s : ByteArray) : vl s = nmF 0 (bys s) := by
  unfold vl nm cut bys
  rw [List.drop_zero, List.take_of_length_le (by rw [size_list]; exact Nat.le_refl _)]
theorem text_of {s : ByteArray} (h : digsT s) : s = str (by8 (dg (vl s) s.size)) := by
  have h1 := dg_of s.size (bys s) (bys_len s) (digs_mem h)
  rw [← vl_bys] at h1
  rw [← h1]
  apply ByteArray.ext
  apply Array.toList_inj.1
  show s.data.toList = (bys s).map UInt8.ofNat
  unfold bys
  rw [List.map_map]
  conv => lhs; rw [← List.map_id s.data.toList]
  refine List.map_congr_left fun x _ => ?_
  simp
theorem vl_lt {s : ByteArray} (h : digsT s) : vl s < 10 ^ s.size := by
  have := nmF_lt (bys s) (digs_mem h)
  rw [bys_len, ← vl_bys] at this; exact this
theorem vl_low {s : ByteArray} (h : digsT s) (h0 : 0 < s.size) (h1 : bN s 0 ≠ 48) : 10 ^ (s.size - 1) ≤ vl s := by
  have h2 := nm_grow s 1 (s.size - 1) (by omega)
  rw [nm_first s h0, show 1 + (s.size - 1) = s.size from by omega] at h2
  have h3 := h 0 h0
  unfold dig at h3
  have h4 : 1 ≤ bN s 0 - 48 := by omega
  have h5 := Nat.mul_le_mul_right (10 ^ (s.size - 1)) h4
  rw [Nat.one_mul] at h5
  exact Nat.le_trans h5 h2
/-- The digits of a number without further zeros. -/
def isD (s : ByteArray) : Prop := digsT s ∧ 0 < s.size ∧ (bN s 0 = 48 → s.size = 1)
instance (s : ByteArray) : Decidable (isD s) := by unfold isD; infer_instance
theorem zero_text {s : ByteArray} : s = ⟨#[48]⟩ ↔ s.size = 1 ∧ bN s 0 = 48 := by
  refine ⟨fun h => by rw [h]; decide, fun ⟨h1, h2⟩ => ?_⟩
  have hl : s.data.toList.length = 1 := by rw [size_list]; exact h1
  apply ByteArray.ext
  apply Array.toList_inj.1
  unfold bN at h2
  match hs : s.data.toList, hl with
  | [c], _ =>
    rw [hs] at h2
    simp at h2
    have : c = 48 := UInt8.toNat_inj.1 h2
    rw [this]
theorem minus_text {s : ByteArray} (h : 0 < s.size) : s.extract 0 1 = ⟨#[45]⟩ ↔ bN s 0 = 45 := by
  have hb := bN_extract s 0 1 0 (by decide)
  have hz := size_extract s 0 1 h
  generalize s.extract 0 1 = t at *
  rw [Nat.add_zero] at hb
  rw [← hb]
  refine ⟨fun h => by rw [h]; rfl, fun h2 => ?_⟩
  have hl : t.data.toList.length = 1 := by rw [size_list]; exact hz
  apply ByteArray.ext
  apply Array.toList_inj.1
  unfold bN at h2
  match hs : t.data.toList, hl with
  | [c], _ =>
    rw [hs] at h2
    simp at h2
    have : c = 45 := UInt8.toNat_inj.1 h2
    rw [this]
/-! ### what exceeds a limit of 39 digits -/
theorem size_digits {s : ByteArray} {m : Nat} (h : isD s) (h1 : 100000000000000000000000000000000000000 ≤ m) (h2 : m < 1000000000000000000000000000000000000000) (hs : s.size ≠ 39) : m < vl s ↔ 39 < s.size := by
  obtain ⟨hd, h0, hz⟩ := h
  have hlt := vl_lt hd
  refine ⟨fun h => ?_, fun h => ?_⟩
  · rcases Nat.lt_or_ge 39 s.size with h3 | h3
    · exact h3
    · have h4 : 10 ^ s.size ≤ 10 ^ 38 := Nat.pow_le_pow_right (by decide) (by omega)
      have : (10 : Nat) ^ 38 = 100000000000000000000000000000000000000 := by decide
      omega
  · have h3 := vl_low hd h0 (fun he => by have := hz he; omega)
    have h4 : 10 ^ 39 ≤ 10 ^ (s.size - 1) := Nat.pow_le_pow_right (by decide) (by omega)
    have : (10 : Nat) ^ 39 = 1000000000000000000000000000000000000000 := by decide
    omega
theorem less_digits {s : ByteArray} {m : Nat} (h : digsT s) (h2 : m < 1000000000000000000000000000000000000000) (hs : s.size = 39) :
    Go.Op.bytesLess s.toList (str (by8 (dg m 39))).toList = decide (vl s < m) := by
  have e := text_of h
  rw [hs] at e
  have hv := vl_lt h
  rw [hs] at hv
  have h39 : (10 : Nat) ^ 39 = 1000000000000000000000000000000000000000 := by decide
  conv => lhs; rw [e]
  rw [ByteArray.toList_eq, ByteArray.toList_eq, str_toList, str_toList, bytes_less _ _ (fun x hx => by have := dg_lt (vl s) 39 x hx; omega) (fun x hx => by have := dg_lt m 39 x hx; omega), less_dg, Nat.mod_eq_of_lt hv, Nat.mod_eq_of_lt (by omega)]
theorem more_digits {s t : ByteArray} {m : Nat} (h : digsT s) (h2 : m < 1000000000000000000000000000000000000000) (hs : s.size = 39) (ht : t = str (by8 (dg m 39))) :
    (!Go.Op.bytesLess s.toList t.toList && !s.toList == t.toList) = decide (m < vl s) := by
  have hl := less_digits h h2 hs
  rw [← ht] at hl
  rw [hl]
  by_cases h1 : vl s < m
  · rw [decide_eq_true h1, decide_eq_false (by omega)]; rfl
  · rw [decide_eq_false h1]
    by_cases h3 : vl s = m
    · have e := text_of h
      rw [hs, h3, ← ht] at e
      have e2 : (s.toList == t.toList) = true := by rw [← e]; exact beq_self_eq_true _
      rw [e2, decide_eq_false (by omega)]; rfl
    · have e2 : (s.toList == t.toList) = false := beq_eq_false_iff_ne.2 fun e => h3 (by
        rw [ByteArray.toList_eq, ByteArray.toList_eq] at e
        have e4 : s = t := ByteArray.ext (Array.toList_inj.1 e)
        rw [e4, ht, vl_str _ (fun x hx => by have := dg_lt m 39 x hx; omega)]
        exact nmF_dg m 39 0 (by rw [Nat.div_eq_of_lt]; exact Nat.lt_of_lt_of_le h2 (by decide)))
      rw [e2, decide_eq_true (by omega)]; rfl
/-! ### the form of a text, and its number -/
def okW (s : ByteArray) : Prop := s.size ≤ 40 ∧ isD (body s) ∧ ¬ (ngb s = true ∧ bN (body s) 0 = 48)
instance (s : ByteArray) : Decidable (okW s) := by unfold okW; infer_instance
def limW (b : Bool) : Nat := if b then 170141183460469231731687303715884105728 else 170141183460469231731687303715884105727
def fitsW (s : ByteArray) : Prop := vl (body s) ≤ limW (ngb s)
instance (s : ByteArray) : Decidable (fitsW s) := by unfold fitsW; infer_instance
def WN (s : ByteArray) : Int := if okW s ∧ fitsW s then sgn (ngb s) (vl (body s)) else 0
def WC (s : ByteArray) : Nat := if okW s then (if fitsW s then 0 else 8) else 2
theorem WN_ok {s : ByteArray} (h : okW s) (h2 : fitsW s) : WN s = sgn (ngb s) (vl (body s)) := if_pos ⟨h, h2⟩
theorem WC_ok {s : ByteArray} (h : okW s) (h2 : fitsW s) : WC s = 0 := by unfold WC; rw [if_pos h, if_pos h2]
theorem WN_big {s : ByteArray} (h2 : ¬ fitsW s) : WN s = 0 := if_neg fun h => h2 h.2
theorem WC_big {s : ByteArray} (h : okW s) (h2 : ¬ fitsW s) : WC s = 8 := by unfold WC; rw [if_pos h, if_neg h2]
theorem WN_bad {s : ByteArray} (h : ¬ okW s) : WN s = 0 := if_neg fun h2 => h h2.1
theorem WC_bad {s : ByteArray} (h : ¬ okW s) : WC s = 2 := if_neg h
theorem WN_in (s : ByteArray) : W128 (WN s) := by
  unfold WN
  split
  · rename_i h
    have h2 := h.2
    unfold fitsW limW at h2
    unfold sgn W128
    clear h
    cases hb : ngb s
    · rw [hb, if_neg (by decide)] at h2
      rw [if_neg (by decide)]; omega
    · rw [hb, if_pos rfl] at h2
      rw [if_pos rfl]; omega
  · unfold W128; omega
/-! ### the text of a number -/
/-- How many digits a number has. -/
def nd (m : Nat) : Nat := max 1 (len m)
/-- The text of a number. -/
def wt (m : Nat) : ByteArray := str (by8 (dg m (nd m)))
def FT (z : Int) : ByteArray := str (by8 (sign z ++ dg z.natAbs (nd z.natAbs)))
theorem nd_pos (m : Nat) : 1 ≤ nd m := Nat.le_max_left _ _
theorem nd_max {m : Nat} (h : m ≤ 170141183460469231731687303715884105728) : nd m ≤ 39 := by
  have := (len_le m 39).1 (by omega)
  unfold nd; omega
theorem dg_bytes (v n : Nat) : ∀ x ∈ dg v n, x < 256 := fun x hx => by have := dg_lt v n x hx; omega
theorem wt_size (m : Nat) : (wt m).size = nd m := by unfold wt; rw [str_size, by8_len, dg_len]
theorem dgs_dig (v n k : Nat) (h : k < n) : dig (bN (str (by8 (dg v n))) k) := by
  rw [bN_by8 _ (dg_bytes v n) k (by rw [dg_len]; exact h)]
  refine dg_lt v n _ ?_
  rw [List.getD_eq_getElem?_getD, List.getElem?_eq_getElem (by rw [dg_len]; exact h)]
  exact List.getElem_mem _
theorem wt_vl (m : Nat) : vl (wt m) = m := by
  unfold wt
  rw [vl_str _ (dg_bytes _ _)]
  exact nmF_dg m (nd m) 0 (by
    rw [Nat.div_eq_of_lt]
    exact (len_le m (nd m)).2 (Nat.le_max_right _ _))
theorem wt_first (m : Nat) : bN (wt m) 0 = 48 + m / 10 ^ (nd m - 1) % 10 := by
  unfold wt
  rw [bN_by8 _ (dg_bytes _ _) 0 (by rw [dg_len]; exact nd_pos m)]
  obtain ⟨w, hw⟩ : ∃ w, nd m = w + 1 := ⟨nd m - 1, by have := nd_pos m; omega⟩
  rw [hw, Nat.add_sub_cancel]
  rfl
theorem wt_zero {m : Nat} (h : bN (wt m) 0 = 48) : nd m = 1 ∧ m = 0 := by
  rw [wt_first] at h
  by_cases h1 : nd m = 1
  · refine ⟨h1, ?_⟩
    have h3 : len m ≤ 1 := by unfold nd at h1; omega
    have h4 := (len_le m 1).2 h3
    rw [h1, Nat.sub_self, Nat.pow_zero, Nat.div_one] at h
    omega
  · have hw : nd m = len m := by unfold nd at h1 ⊢; omega
    have hp := nd_pos m
    have h3 : m < 10 ^ nd m := (len_le m _).2 (by omega)
    have h4 : ¬ m < 10 ^ (nd m - 1) := fun h => by have := (len_le m _).1 h; omega
    rw [show nd m = (nd m - 1) + 1 from by omega, Nat.pow_succ] at h3
    have h5 : m / 10 ^ (nd m - 1) < 10 := by
      rw [Nat.div_lt_iff_lt_mul (pow_pos' _), Nat.mul_comm]; exact h3
    have h6 : 1 ≤ m / 10 ^ (nd m - 1) := by
      rw [Nat.le_div_iff_mul_le (pow_pos' _), Nat.one_mul]; omega
    omega
theorem wt_isD (m : Nat) : isD (wt m) := by
  refine ⟨fun k hk => ?_, ?_, fun h => ?_⟩
  · rw [wt_size] at hk
    exact dgs_dig m (nd m) k hk
  · rw [wt_size]; exact nd_pos m
  · rw [wt_size]; exact (wt_zero h).1
theorem ft_neg {z : Int} (h : z < 0) : FT z = str (by8 (45 :: dg z.natAbs (nd z.natAbs))) := by unfold FT sign; rw [if_pos h]; rfl
theorem ft_pos {z : Int} (h : ¬ z < 0) : FT z = wt z.natAbs := by unfold FT sign; rw [if_neg h]; rfl
theorem ft_ngb (z : Int) : ngb (FT z) = decide (z < 0) := by
  by_cases h : z < 0
  · rw [decide_eq_true h, ft_neg h]
    unfold ngb
    refine decide_eq_true ⟨by rw [str_size, by8_len, List.length_cons]; omega, ?_⟩
    rw [bN_by8 _ (fun x hx => by
      rw [List.mem_cons] at hx
      rcases hx with rfl | hx
      · decide
      · exact dg_bytes _ _ x hx) 0 (by simp)]
    rfl
  · rw [decide_eq_false h, ft_pos h]
    unfold ngb
    refine decide_eq_false fun ⟨_, h2⟩ => ?_
    rw [wt_first] at h2
    omega
theorem ft_body (z : Int) : body (FT z) = wt z.natAbs := by
  unfold body
  rw [ft_ngb]
  by_cases h : z < 0
  · rw [decide_eq_true h, if_pos rfl, ft_neg h]
    rw [extract_end, str_toList]
    rfl
  · rw [decide_eq_false h, if_neg (by decide), ft_pos h]
theorem ft_size {z : Int} (h : W128 z) : (FT z).size ≤ 40 ∧ 1 ≤ (FT z).size := by
  have h1 : nd z.natAbs ≤ 39 := nd_max (by unfold W128 at h; omega)
  have h2 := nd_pos z.natAbs
  have h3 := sign_len z
  unfold FT
  rw [str_size, by8_len, List.length_append, dg_len]
  omega
theorem ft_read {z : Int} (h : W128 z) : okW (FT z) ∧ fitsW (FT z) ∧ WN (FT z) = z ∧ WC (FT z) = 0 := by
  have ho : okW (FT z) := by
    refine ⟨(ft_size h).1, by rw [ft_body]; exact wt_isD _, fun ⟨h1, h2⟩ => ?_⟩
    rw [ft_ngb] at h1
    rw [ft_body] at h2
    have h3 := (wt_zero h2).2
    have := of_decide_eq_true h1
    omega
  have hf : fitsW (FT z) := by
    unfold fitsW limW
    rw [ft_body, ft_ngb, wt_vl]
    unfold W128 at h
    by_cases hz : z < 0
    · rw [decide_eq_true hz, if_pos rfl]; omega
    · rw [decide_eq_false hz, if_neg (by decide)]; omega
  refine ⟨ho, hf, ?_, WC_ok ho hf⟩
  rw [WN_ok ho hf, ft_ngb, ft_body, wt_vl]
  unfold sgn
  by_cases hz : z < 0
  · rw [decide_eq_true hz, if_pos rfl]; omega
  · rw [decide_eq_false hz, if_neg (by decide)]; omega
end Go.WD
