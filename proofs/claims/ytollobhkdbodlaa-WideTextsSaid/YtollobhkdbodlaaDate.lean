/- Plain facts on days: leap years, months, the number of a day, its digits and its text. -/
import Derived.Test.YtollobhkdbodlaaBase
namespace Go.DT
open Go.VB
/-- A leap year. -/
def leapP (y : Int) : Prop := (y % 4 = 0 ∧ y % 100 ≠ 0) ∨ y % 400 = 0
instance (y : Int) : Decidable (leapP y) := by unfold leapP; infer_instance
def lp (y : Int) : Bool := decide (leapP y)
theorem lp_true {y : Int} (h : leapP y) : lp y = true := decide_eq_true h
theorem lp_false {y : Int} (h : ¬ leapP y) : lp y = false := decide_eq_false h
/-- The days of a month. -/
def dimB (l : Bool) (m : Int) : Int := if m = 2 then (if l then 29 else 28) else if m = 4 ∨ m = 6 ∨ m = 9 ∨ m = 11 then 30 else 31
def dim (y m : Int) : Int := dimB (lp y) m
theorem dim_bd (y m : Int) : 28 ≤ dim y m ∧ dim y m ≤ 31 := by
  unfold dim dimB
  split
  · cases lp y <;> decide
  · split <;> decide
/-- The days before year y. -/
def dby (y : Int) : Int := 365 * (y - 1) + (y - 1) / 4 - (y - 1) / 100 + (y - 1) / 400
/-- The days of year y. -/
def diy (y : Int) : Int := if lp y then 366 else 365
theorem dby_succ (y : Int) : dby (y + 1) = dby y + diy y := by
  unfold dby diy
  by_cases h : leapP y
  · rw [lp_true h, if_pos rfl]; unfold leapP at h; omega
  · rw [lp_false h, if_neg (by decide)]; unfold leapP at h; omega
theorem dby_mono {y z : Int} (h : y ≤ z) : dby y ≤ dby z := by
  rcases Int.lt_or_eq_of_le h with h | h
  · unfold dby; omega
  · rw [h]; exact Int.le_refl _
theorem dby_bd {y : Int} (h : 1 ≤ y) : 0 ≤ dby y ∧ dby y ≤ 366 * (y - 1) := by unfold dby; omega
theorem dby_last : dby 10000 = 3652059 := by decide
theorem dby_first : dby 1 = 0 := by decide
/-- The days before month k + 1. -/
def dbmB (l : Bool) : Nat → Int
  | 0 => 0
  | k + 1 => dbmB l k + dimB l ((k : Int) + 1)
def dbm (y : Int) (k : Nat) : Int := dbmB (lp y) k
theorem dbm_zero (y : Int) : dbm y 0 = 0 := rfl
theorem dbm_succ (y : Int) (k : Nat) : dbm y (k + 1) = dbm y k + dim y ((k : Int) + 1) := rfl
theorem dbm_12 (y : Int) : dbm y 12 = diy y := by
  unfold dbm diy
  cases lp y <;> decide
theorem dbm_mono (y : Int) {j k : Nat} (h : j ≤ k) : dbm y j ≤ dbm y k := by
  induction k with
  | zero => rw [Nat.le_zero.1 h]; exact Int.le_refl _
  | succ k ih =>
    rcases Nat.lt_or_eq_of_le h with h | h
    · have := ih (by omega)
      have := dim_bd y ((k : Int) + 1)
      rw [dbm_succ]; omega
    · rw [h]; exact Int.le_refl _
theorem dbm_bd (y : Int) (k : Nat) : 0 ≤ dbm y k ∧ dbm y k ≤ 31 * (k : Int) := by
  induction k with
  | zero => rw [dbm_zero]; decide
  | succ k ih =>
    have := dim_bd y ((k : Int) + 1)
    rw [dbm_succ]; push_cast; omega
/-- A day of the calendar. -/
def okD (y m d : Int) : Prop := 1 ≤ y ∧ y ≤ 9999 ∧ 1 ≤ m ∧ m ≤ 12 ∧ 1 ≤ d ∧ d ≤ dim y m
instance (y m d : Int) : Decidable (okD y m d) := by unfold okD; infer_instance
/-- Its number. -/
def num (y m d : Int) : Int := -719162 + (dby y + d - 1 + dbm y (m - 1).toNat)
def dn (y m d : Int) : Int := if okD y m d then num y m d else 0
def dc (y m d : Int) : Nat := if okD y m d then 0 else 4
theorem toNat_succ {m : Int} (h : 1 ≤ m) : ((m - 1).toNat : Int) + 1 = m := by omega
theorem dbm_of (y : Int) {m : Int} (h : 1 ≤ m) : dbm y m.toNat = dbm y (m - 1).toNat + dim y m := by
  have e : m.toNat = (m - 1).toNat + 1 := by omega
  rw [e, dbm_succ, toNat_succ h]
theorem inyear {y m d : Int} (h : okD y m d) : 0 ≤ d - 1 + dbm y (m - 1).toNat ∧ d - 1 + dbm y (m - 1).toNat < diy y := by
  obtain ⟨_, _, h3, h4, h5, h6⟩ := h
  have h1 := dbm_bd y (m - 1).toNat
  have h2 := dbm_mono y (j := m.toNat) (k := 12) (by omega)
  rw [dbm_12, dbm_of y h3] at h2
  omega
theorem num_bd {y m d : Int} (h : okD y m d) : -719162 ≤ num y m d ∧ num y m d ≤ 2932896 := by
  have h1 := inyear h
  have h2 := dby_bd h.1
  have h3 := dby_mono (y := y + 1) (z := 10000) (by have := h.2.1; omega)
  rw [dby_succ, dby_last] at h3
  unfold num
  omega
theorem num_lt_year {y m d y' m' d' : Int} (h : okD y m d) (h' : okD y' m' d') (hy : y < y') : num y m d < num y' m' d' := by
  have h1 := inyear h
  have h2 := inyear h'
  have h3 := dby_mono (y := y + 1) (z := y') (by omega)
  rw [dby_succ] at h3
  unfold num
  omega
theorem num_lt_month {y m d m' d' : Int} (h : okD y m d) (h' : okD y m' d') (hm : m < m') : num y m d < num y m' d' := by
  have h3 := dbm_mono y (j := m.toNat) (k := (m' - 1).toNat) (by have := h.2.2.1; omega)
  rw [dbm_of y h.2.2.1] at h3
  obtain ⟨_, _, _, _, h5, h6⟩ := h
  obtain ⟨_, _, _, _, h7, h8⟩ := h'
  unfold num
  omega
theorem num_lt_day {y m d d' : Int} (hd : d < d') : num y m d < num y m d' := by
  unfold num; omega
/-- The order of days. -/
def before (y m d y' m' d' : Int) : Prop := y < y' ∨ (y = y' ∧ (m < m' ∨ (m = m' ∧ d < d')))
theorem num_lt {y m d y' m' d' : Int} (h : okD y m d) (h' : okD y' m' d') (hb : before y m d y' m' d') : num y m d < num y' m' d' := by
  rcases hb with hy | ⟨rfl, hm | ⟨rfl, hd⟩⟩
  · exact num_lt_year h h' hy
  · exact num_lt_month h h' hm
  · exact num_lt_day hd
theorem num_tri (y m d y' m' d' : Int) : before y m d y' m' d' ∨ before y' m' d' y m d ∨ (y = y' ∧ m = m' ∧ d = d') := by
  unfold before; omega
theorem num_inj {y m d y' m' d' : Int} (h : okD y m d) (h' : okD y' m' d') (e : num y m d = num y' m' d') : y = y' ∧ m = m' ∧ d = d' := by
  rcases num_tri y m d y' m' d' with h1 | h1 | h1
  · have := num_lt h h' h1; omega
  · have := num_lt h' h h1; omega
  · exact h1
theorem num_iff {y m d y' m' d' : Int} (h : okD y m d) (h' : okD y' m' d') : num y m d < num y' m' d' ↔ before y m d y' m' d' := by
  refine ⟨fun hlt => ?_, num_lt h h'⟩
  rcases num_tri y m d y' m' d' with h1 | h1 | ⟨rfl, rfl, rfl⟩
  · exact h1
  · have := num_lt h' h h1; omega
  · omega
/-- The next day. -/
theorem next {y m d : Int} (h : okD y m d) (hl : num y m d < 2932896) :
    (okD y m (d + 1) ∧ num y m (d + 1) = num y m d + 1) ∨ (okD y (m + 1) 1 ∧ num y (m + 1) 1 = num y m d + 1) ∨ (okD (y + 1) 1 1 ∧ num (y + 1) 1 1 = num y m d + 1 ∧ m = 12 ∧ d = 31) := by
  obtain ⟨h1, h2, h3, h4, h5, h6⟩ := h
  by_cases hd : d < dim y m
  · left
    refine ⟨⟨h1, h2, h3, h4, by omega, by omega⟩, ?_⟩
    unfold num; omega
  have hd' : d = dim y m := by omega
  by_cases hm : m < 12
  · right; left
    have := dim_bd y (m + 1)
    refine ⟨⟨h1, h2, by omega, by omega, by omega, by omega⟩, ?_⟩
    have e := dbm_of y h3
    rw [← hd'] at e
    unfold num
    rw [show m + 1 - 1 = m from by omega, e]
    omega
  · have hm' : m = 12 := by omega
    subst hm'
    have h31 : dim y 12 = 31 := by unfold dim; cases lp y <;> decide
    have e := dbm_12 y
    have e2 := dbm_of y (m := 12) (by decide)
    rw [show (12 : Int).toNat = 12 from rfl, e] at e2
    have hy := dby_succ y
    right; right
    have hy2 : y < 9999 := by
      refine Int.lt_of_not_ge fun hge => ?_
      have : y = 9999 := by omega
      subst this
      rw [show (9999 : Int) + 1 = 10000 from rfl, dby_last] at hy
      unfold num at hl
      omega
    have := dim_bd (y + 1) 1
    refine ⟨⟨by omega, by omega, by decide, by decide, by decide, by omega⟩, ?_, rfl, by omega⟩
    unfold num
    rw [hy, show ((1 : Int) - 1).toNat = 0 from rfl, dbm_zero]
    omega

/-! ### digits -/
/-- The last n decimal digits of v. -/
def dg (v : Nat) : Nat → List Nat
  | 0 => []
  | n + 1 => (48 + v / 10 ^ n % 10) :: dg v n
theorem dg_len (v n : Nat) : (dg v n).length = n := by
  induction n with
  | zero => rfl
  | succ n ih => rw [dg, List.length_cons, ih]
theorem dg_lt (v n : Nat) : ∀ x ∈ dg v n, 48 ≤ x ∧ x ≤ 57 := by
  induction n with
  | zero => intro x hx; cases hx
  | succ n ih =>
    intro x hx
    rw [dg, List.mem_cons] at hx
    rcases hx with rfl | hx
    · omega
    · exact ih x hx
/-- The number of a list of digits. -/
def nmF (a : Nat) (l : List Nat) : Nat := l.foldl (fun a x => a * 10 + (x - 48)) a
theorem nmF_snoc (a : Nat) (l : List Nat) (x : Nat) : nmF a (l ++ [x]) = nmF a l * 10 + (x - 48) := by
  unfold nmF; rw [List.foldl_append]; rfl
theorem nmF_dg (v n a : Nat) (h : a = v / 10 ^ n) : nmF a (dg v n) = v := by
  induction n generalizing a with
  | zero => rw [h]; simp [nmF, dg]
  | succ n ih =>
    have e : nmF a (dg v (n + 1)) = nmF (a * 10 + (48 + v / 10 ^ n % 10 - 48)) (dg v n) := rfl
    rw [e]
    refine ih _ ?_
    rw [h, Nat.pow_succ, ← Nat.div_div_eq_div_mul]
    omega
/-- The bytes of a text from i on, n of them, as numbers. -/
def cut (s : ByteArray) (i n : Nat) : List Nat := ((s.data.toList.drop i).take n).map UInt8.toNat
def nm (s : ByteArray) (i n : Nat) : Nat := nmF 0 (cut s i n)
theorem nm_zero (s : ByteArray) (i : Nat) : nm s i 0 = 0 := rfl
theorem cut_succ (s : ByteArray) (i n : Nat) (h : i + n < s.size) : cut s i (n + 1) = cut s i n ++ [bN s (i + n)] := by
  have hl : n < (s.data.toList.drop i).length := by rw [List.length_drop, size_list]; omega
  unfold cut
  rw [List.take_succ_eq_append_getElem hl, List.map_append, List.map_cons, List.map_nil]
  congr 2
  unfold bN
  rw [List.getD_eq_getElem?_getD, List.getElem_drop, List.getElem?_eq_getElem (by rw [size_list]; exact h)]
  rfl
theorem nm_succ (s : ByteArray) (i n : Nat) (h : i + n < s.size) : nm s i (n + 1) = nm s i n * 10 + (bN s (i + n) - 48) := by
  unfold nm; rw [cut_succ s i n h, nmF_snoc]
/-- The form of a day's text. -/
def fits (s : ByteArray) (i : Nat) : Prop := if i = 4 ∨ i = 7 then bN s i = 45 else 48 ≤ bN s i ∧ bN s i ≤ 57
instance (s : ByteArray) (i : Nat) : Decidable (fits s i) := by unfold fits; infer_instance
def form (s : ByteArray) : Prop := s.size = 10 ∧ ∀ i, i < 10 → fits s i
instance (s : ByteArray) : Decidable (form s) := by unfold form; infer_instance
def pn (s : ByteArray) : Int := if form s then dn (nm s 0 4 : Nat) (nm s 5 2 : Nat) (nm s 8 2 : Nat) else 0
def pc (s : ByteArray) : Nat := if form s then dc (nm s 0 4 : Nat) (nm s 5 2 : Nat) (nm s 8 2 : Nat) else 2
/-- The text of a day. -/
def txt (y m d : Nat) : List Nat := dg y 4 ++ [45] ++ dg m 2 ++ [45] ++ dg d 2
theorem txt_len (y m d : Nat) : (txt y m d).length = 10 := by simp [txt, dg_len]
end Go.DT
