/- Plain facts on the texts of days: their form, their numbers, their order. -/
import Derived.Test.YtollobhkdbodlaaDate
namespace Go.DT
open Go.VB
/-! ### numbers out of texts -/
theorem nm_lt (s : ByteArray) (i n : Nat) (h : i + n ≤ s.size) (hd : ∀ k, k < n → bN s (i + k) ≤ 57) : nm s i n < 10 ^ n := by
  induction n with
  | zero => rw [nm_zero]; decide
  | succ n ih =>
    have h1 := ih (by omega) fun k hk => hd k (by omega)
    have h2 := hd n (by omega)
    rw [nm_succ s i n (by omega), Nat.pow_succ]
    omega
theorem cut_extract (s : ByteArray) (i j n : Nat) (h : n ≤ j - i) : cut (s.extract i j) 0 n = cut s i n := by
  unfold cut
  rw [extract_list, List.drop_zero, List.take_take, Nat.min_eq_left h]
theorem nm_extract (s : ByteArray) (i j n : Nat) (h : n ≤ j - i) : nm (s.extract i j) 0 n = nm s i n := by unfold nm; rw [cut_extract s i j n h]
theorem bN_extract (s : ByteArray) (i j k : Nat) (h : k < j - i) : bN (s.extract i j) k = bN s (i + k) := by
  unfold bN
  rw [extract_list]
  simp [h]
theorem size_extract (s : ByteArray) (i j : Nat) (h : j ≤ s.size) : (s.extract i j).size = j - i := by
  rw [ByteArray.size_extract, Nat.min_eq_left h]
theorem fits_dig {s : ByteArray} {i : Nat} (h : fits s i) (h4 : i ≠ 4) (h7 : i ≠ 7) : 48 ≤ bN s i ∧ bN s i ≤ 57 := by
  unfold fits at h; rw [if_neg (by omega)] at h; exact h
theorem fits_hyp {s : ByteArray} {i : Nat} (h : i = 4 ∨ i = 7) : fits s i ↔ bN s i = 45 := by
  unfold fits; rw [if_pos h]
theorem fits_num {s : ByteArray} {i : Nat} (h : ¬ (i = 4 ∨ i = 7)) : fits s i ↔ 48 ≤ bN s i ∧ bN s i ≤ 57 := by
  unfold fits; rw [if_neg h]
theorem not_form {s : ByteArray} {i : Nat} (hi : i < 10) (h : ¬ fits s i) : ¬ form s := fun hf => h (hf.2 i hi)
theorem pn_in {s : ByteArray} (h : form s) : pn s = dn (nm s 0 4 : Nat) (nm s 5 2 : Nat) (nm s 8 2 : Nat) := if_pos h
theorem pc_in {s : ByteArray} (h : form s) : pc s = dc (nm s 0 4 : Nat) (nm s 5 2 : Nat) (nm s 8 2 : Nat) := if_pos h
theorem pn_out {s : ByteArray} (h : ¬ form s) : pn s = 0 := if_neg h
theorem pc_out {s : ByteArray} (h : ¬ form s) : pc s = 2 := if_neg h
/-! ### texts out of numbers -/
def by8 (l : List Nat) : List UInt8 := l.map UInt8.ofNat
theorem by8_len (l : List Nat) : (by8 l).length = l.length := List.length_map _
theorem by8_app (a b : List Nat) : by8 (a ++ b) = by8 a ++ by8 b := List.map_append
theorem by8_back {l : List Nat} (h : ∀ x ∈ l, x < 256) : (by8 l).map UInt8.toNat = l := by
  unfold by8
  rw [List.map_map]
  conv => rhs; rw [← List.map_id l]
  refine List.map_congr_left fun x hx => ?_
  simp only [Function.comp, id]
  rw [UInt8.toNat_ofNat', Nat.mod_eq_of_lt (h x hx)]
theorem txt_lt (y m d : Nat) : ∀ x ∈ txt y m d, x < 256 := by
  intro x hx
  simp only [txt, List.mem_append, List.mem_singleton] at hx
  rcases hx with (((h | h) | h) | h) | h
  · have := dg_lt y 4 x h; omega
  · omega
  · have := dg_lt m 2 x h; omega
  · omega
  · have := dg_lt d 2 x h; omega
theorem cut_str (l : List Nat) (h : ∀ x ∈ l, x < 256) (i n : Nat) : cut (str (by8 l)) i n = (l.drop i).take n := by
  unfold cut
  rw [str_toList, List.map_take, List.map_drop, by8_back h]
theorem bN_by8 (l : List Nat) (h : ∀ x ∈ l, x < 256) (i : Nat) (hi : i < l.length) : bN (str (by8 l)) i = l.getD i 0 := by
  rw [bN_str]
  unfold by8
  rw [List.getD_eq_getElem?_getD, List.getD_eq_getElem?_getD, List.getElem?_map, List.getElem?_eq_getElem hi]
  simp only [Option.map_some, Option.getD_some]
  rw [UInt8.toNat_ofNat', Nat.mod_eq_of_lt (h _ (List.getElem_mem hi))]
theorem txt_size (y m d : Nat) : (str (by8 (txt y m d))).size = 10 := by rw [str_size, by8_len, txt_len]
theorem txt_cells (y m d : Nat) : txt y m d = [48 + y / 1000 % 10, 48 + y / 100 % 10, 48 + y / 10 % 10, 48 + y / 1 % 10, 45, 48 + m / 10 % 10, 48 + m / 1 % 10, 45, 48 + d / 10 % 10, 48 + d / 1 % 10] := rfl
theorem txt_form (y m d : Nat) : form (str (by8 (txt y m d))) := by
  refine ⟨txt_size y m d, fun i hi => ?_⟩
  have hb := bN_by8 _ (txt_lt y m d) i (by rw [txt_len]; exact hi)
  unfold fits
  rw [hb, txt_cells]
  have hc : i = 0 ∨ i = 1 ∨ i = 2 ∨ i = 3 ∨ i = 4 ∨ i = 5 ∨ i = 6 ∨ i = 7 ∨ i = 8 ∨ i = 9 := by omega
  rcases hc with rfl | rfl | rfl | rfl | rfl | rfl | rfl | rfl | rfl | rfl <;> simp <;> omega
theorem txt_y (y m d : Nat) (h : y < 10000) : nm (str (by8 (txt y m d))) 0 4 = y := by
  unfold nm; rw [cut_str _ (txt_lt y m d)]
  exact nmF_dg y 4 0 (by omega)
theorem txt_m (y m d : Nat) (h : m < 100) : nm (str (by8 (txt y m d))) 5 2 = m := by
  unfold nm; rw [cut_str _ (txt_lt y m d)]
  exact nmF_dg m 2 0 (by omega)
theorem txt_d (y m d : Nat) (h : d < 100) : nm (str (by8 (txt y m d))) 8 2 = d := by
  unfold nm; rw [cut_str _ (txt_lt y m d)]
  exact nmF_dg d 2 0 (by omega)
/-! ### the order of texts -/
instance (y m d y' m' d' : Int) : Decidable (before y m d y' m' d') := by unfold before; infer_instance
def less : List Nat → List Nat → Bool
  | _, [] => false
  | [], _ :: _ => true
  | a :: x, b :: y => decide (a < b) || (a == b && less x y)
theorem less_app (a b c d : List Nat) (h : a.length = b.length) : less (a ++ c) (b ++ d) = (less a b || (decide (a = b) && less c d)) := by
  induction a generalizing b with
  | nil =>
    cases b with
    | nil => simp [less]
    | cons _ _ => simp at h
  | cons x a ih =>
    cases b with
    | nil => simp at h
    | cons y b =>
      have := ih b (by simpa using h)
      simp only [List.cons_append, less, this]
      by_cases h1 : x < y
      · have : ¬ x = y := by omega
        simp [h1]
      · by_cases h2 : x = y
        · subst h2; simp
        · have h3 : (x == y) = false := beq_eq_false_iff_ne.2 h2
          simp [h1, h2, h3]
theorem less_self (a : List Nat) : less a a = false := by
  induction a with
  | nil => rfl
  | cons x a ih => simp [less, ih]
theorem less_dg (v v' n : Nat) : less (dg v n) (dg v' n) = decide (v % 10 ^ n < v' % 10 ^ n) := by
  induction n with
  | zero => simp [dg, less, Nat.mod_one]
  | succ n ih =>
    have e := Nat.mod_mul (a := 10 ^ n) (b := 10) (x := v)
    have e' := Nat.mod_mul (a := 10 ^ n) (b := 10) (x := v')
    rw [← Nat.pow_succ] at e e'
    have hm := Nat.mod_lt v (Nat.pow_pos (n := n) (show 0 < 10 by decide))
    have hm' := Nat.mod_lt v' (Nat.pow_pos (n := n) (show 0 < 10 by decide))
    simp only [dg, less, ih]
    rw [e, e']
    generalize v / 10 ^ n % 10 = h at *
    generalize v' / 10 ^ n % 10 = h' at *
    generalize v % 10 ^ n = r at *
    generalize v' % 10 ^ n = r' at *
    generalize 10 ^ n = q at *
    rcases Nat.lt_trichotomy h h' with hl | rfl | hl
    · have h3 : q * h + q ≤ q * h' := by rw [← Nat.mul_succ]; exact Nat.mul_le_mul_left q hl
      have : r + q * h < r' + q * h' := by omega
      simp [hl, this]
    · simp
    · have h3 : q * h' + q ≤ q * h := by rw [← Nat.mul_succ]; exact Nat.mul_le_mul_left q hl
      have h4 : ¬ r + q * h < r' + q * h' := by omega
      have h5 : ¬ h = h' := by omega
      simp [h4, h5]
      omega
theorem dg_eq (v v' n : Nat) (h : v < 10 ^ n) (h' : v' < 10 ^ n) : dg v n = dg v' n ↔ v = v' := by
  refine ⟨fun e => ?_, fun e => by rw [e]⟩
  have h1 := nmF_dg v n 0 (by rw [Nat.div_eq_of_lt h])
  have h2 := nmF_dg v' n 0 (by rw [Nat.div_eq_of_lt h'])
  rw [← h1, ← h2, e]
theorem less_txt (y m d y' m' d' : Nat) (hy : y < 10000) (hm : m < 100) (hd : d < 100) (hy' : y' < 10000) (hm' : m' < 100) (hd' : d' < 100) :
    less (txt y m d) (txt y' m' d') = decide (before y m d y' m' d') := by
  have ey := dg_eq y y' 4 (by omega) (by omega)
  have em := dg_eq m m' 2 (by omega) (by omega)
  unfold txt
  rw [less_app _ _ _ _ (by simp [dg_len]), less_app _ _ _ _ (by simp [dg_len]), less_app _ _ _ _ (by simp [dg_len]), less_app _ _ _ _ (by simp [dg_len])]
  rw [less_self, less_dg, less_dg, less_dg, Nat.mod_eq_of_lt (show y < 10 ^ 4 by omega), Nat.mod_eq_of_lt (show y' < 10 ^ 4 by omega), Nat.mod_eq_of_lt (show m < 10 ^ 2 by omega), Nat.mod_eq_of_lt (show m' < 10 ^ 2 by omega), Nat.mod_eq_of_lt (show d < 10 ^ 2 by omega), Nat.mod_eq_of_lt (show d' < 10 ^ 2 by omega)]
  have e1 : (dg y 4 ++ [45] = dg y' 4 ++ [45]) ↔ y = y' := by rw [List.append_left_inj, ey]
  have e2 : (dg y 4 ++ [45] ++ dg m 2 = dg y' 4 ++ [45] ++ dg m' 2) ↔ y = y' ∧ m = m' := by
    rw [← em, ← e1]
    exact ⟨fun h => List.append_inj h (by simp [dg_len]), fun h => by rw [h.1, h.2]⟩
  have e3 : (dg y 4 ++ [45] ++ dg m 2 ++ [45] = dg y' 4 ++ [45] ++ dg m' 2 ++ [45]) ↔ y = y' ∧ m = m' := by rw [List.append_left_inj, e2]
  rw [Bool.eq_iff_iff]
  simp only [e1, e2, e3, ey, Bool.or_eq_true, Bool.and_eq_true, decide_eq_true_iff, Bool.or_false, Bool.and_false]
  unfold before
  omega
theorem bytes_less (a b : List Nat) (ha : ∀ x ∈ a, x < 256) (hb : ∀ x ∈ b, x < 256) : Go.Op.bytesLess (by8 a) (by8 b) = less a b := by
  induction a generalizing b with
  | nil => cases b <;> rfl
  | cons x a ih =>
    cases b with
    | nil => rfl
    | cons y b =>
      have hx := ha x (List.mem_cons_self ..)
      have hy := hb y (List.mem_cons_self ..)
      have h1 := ih b (fun z hz => ha z (List.mem_cons_of_mem _ hz)) (fun z hz => hb z (List.mem_cons_of_mem _ hz))
      have e1 : UInt8.ofNat x < UInt8.ofNat y ↔ x < y := by
        rw [UInt8.lt_iff_toNat_lt, UInt8.toNat_ofNat', UInt8.toNat_ofNat', Nat.mod_eq_of_lt hx, Nat.mod_eq_of_lt hy]
      have e2 : UInt8.ofNat x = UInt8.ofNat y ↔ x = y := by
        rw [← UInt8.toNat_inj, UInt8.toNat_ofNat', UInt8.toNat_ofNat', Nat.mod_eq_of_lt hx, Nat.mod_eq_of_lt hy]
      simp only [by8, List.map_cons, Go.Op.bytesLess, less]
      rw [show List.map UInt8.ofNat a = by8 a from rfl, show List.map UInt8.ofNat b = by8 b from rfl, h1]
      simp only [e1]
      congr 2
      rw [Bool.eq_iff_iff, beq_iff_eq, beq_iff_eq, e2]
theorem less_strs (y m d y' m' d' : Nat) (hy : y < 10000) (hm : m < 100) (hd : d < 100) (hy' : y' < 10000) (hm' : m' < 100) (hd' : d' < 100) :
    Go.Op.bytesLess (str (by8 (txt y m d))).toList (str (by8 (txt y' m' d'))).toList = decide (before y m d y' m' d') := by
  rw [ByteArray.toList_eq, ByteArray.toList_eq, str_toList, str_toList, bytes_less _ _ (txt_lt _ _ _) (txt_lt _ _ _)]
  exact less_txt y m d y' m' d' hy hm hd hy' hm' hd'
end Go.DT
