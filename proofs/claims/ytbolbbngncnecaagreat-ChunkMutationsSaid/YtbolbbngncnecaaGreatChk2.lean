/- Chunks: what Decode finds; what was encoded is read again. -/
import Derived.Test.YtbolbbngncnecaaGreatChk
namespace Go.CK
open Go.RowKit Go.VB Go.VarM Go.BP Go.RL Go.VS Go.VL Go.Proofs.YtbolbbngncnecaaGreat
/-- Check's code for a value of a column. -/
def chkV (typ : Int) (nu : Bool) (x : Vl) : Nat := chk typ nu x.nu x.n x.s
/-- The values behind the marks, if each is valid. -/
def fin (typ : Int) (nu : Bool) (b : List Bool) (l : List Vl) : Option (List Vl) := if ∀ x ∈ weave b l, chkV typ nu x = 0 then some (weave b l) else none
/-- What stands behind the two numbers: n values, k null ones, from place p on. -/
def tailD (typ : Int) (nu : Bool) (codec : Int) (s : ByteArray) (n k p : Nat) : Option (List Vl) :=
  if k = 0 then (payD typ codec (s.extract p s.size) n).bind (fin typ nu (List.replicate n false))
  else if s.size < p + (n + 7) / 8 then none
  else if (Go.NU.upk (s.extract p (p + (n + 7) / 8)) n).2 ≠ 0 ∨ Go.NU.ones (num (s.extract p (p + (n + 7) / 8))) (8 * ((n + 7) / 8)) ≠ k then none
  else (payD typ codec (s.extract (p + (n + 7) / 8) s.size) (n - k)).bind (fin typ nu (Go.NU.upk (s.extract p (p + (n + 7) / 8)) n).1)
/-- What is read of a chunk without its checksum. -/
def bodyD (typ : Int) (nu : Bool) (s : ByteArray) : Option (List Vl) :=
  if (getR s 1).2.2 ≠ 0 ∨ 4096 < (getR s 1).1 ∨ uses typ (bN s 0 : Nat) = false then none
  else if (getR s (getR s 1).2.1).2.2 ≠ 0 ∨ (getR s 1).1 < (getR s (getR s 1).2.1).1 then none
  else tailD typ nu (bN s 0 : Nat) s (getR s 1).1 (getR s (getR s 1).2.1).1 (getR s (getR s 1).2.1).2.1.toNat
/-- The number of the last four bytes. -/
def wordN (s : ByteArray) (p : Nat) : Nat := bN s p + 256 * bN s (p + 1) + 65536 * bN s (p + 2) + 16777216 * bN s (p + 3)
/-- The error of the length and of the checksum. -/
def soundN (s : ByteArray) : Nat := if s.size < 5 then 10 else if wordN s (s.size - 4) ≠ crcL (s.extract 0 (s.size - 4)).data.toList then 9 else 0
/-- What Decode finds. -/
def decC (typ : Int) (nu : Bool) (s : ByteArray) : List Vl × Nat :=
  if okT typ = false then ([], 1) else if soundN s ≠ 0 then ([], soundN s) else
  match bodyD typ nu (s.extract 0 (s.size - 4)) with
  | some l => (l, 0)
  | none => ([], 2)
/-- What Codec finds. -/
def codC (s : ByteArray) : Int × Nat := if soundN s ≠ 0 then (0, soundN s) else if bN s 0 < 1 ∨ 4 < bN s 0 then (0, 2) else ((bN s 0 : Nat), 0)
/-- What Encode finds first. -/
def encE (typ : Int) (nu : Bool) (l : List Vl) : Nat :=
  if okT typ = false then 1 else if 4096 < l.length then 7 else match l.find? fun x => chkV typ nu x != 0 with
  | some x => chkV typ nu x
  | none => 0
/-- The shorter one of two chunks, the first one of equal ones. -/
def bestB (typ : Int) (l : List Vl) : List UInt8 :=
  if typ = 3 then (if (buildB typ 3 l).length < (buildB typ 1 l).length then buildB typ 3 l else buildB typ 1 l)
  else if (buildB typ 2 l).length < (buildB typ 1 l).length then (if (buildB typ 4 l).length < (buildB typ 2 l).length then buildB typ 4 l else buildB typ 2 l)
  else (if (buildB typ 4 l).length < (buildB typ 1 l).length then buildB typ 4 l else buildB typ 1 l)

theorem crcL_lt (s : List UInt8) : crcL s < 4294967296 := Go.CR.sumL_lt (fun x hx => by
  have : ∀ x ∈ Go.CR.tab, x < 4294967296 := by decide +kernel
  exact this x hx) s
theorem bN_app {a b : List UInt8} {i : Nat} (k : Nat) (hk : k = a.length + i) : bN (str (a ++ b)) k = (b.getD i 0).toNat := by
  subst hk
  rw [bN_str, List.getD_eq_getElem?_getD, List.getElem?_append_right (by omega), Nat.add_sub_cancel_left, List.getD_eq_getElem?_getD]
theorem u8_mod (n : Nat) : (UInt8.ofNat (n % 256)).toNat = n % 256 := by rw [UInt8.toNat_ofNat']; omega
/-- A chunk's checksum is right. -/
theorem sound_build (b : List UInt8) (hb : 1 ≤ b.length) : soundN (str (b ++ four (crcL b))) = 0 := by
  have hl : (four (crcL b)).length = 4 := rfl
  have hsz : (str (b ++ four (crcL b))).size = b.length + 4 := by rw [str_size, List.length_append, hl]
  have hc := crcL_lt b
  have hx : (str (b ++ four (crcL b))).extract 0 (b.length + 4 - 4) = str b := by
    rw [extract_str, str_toList, List.drop_zero, show b.length + 4 - 4 - 0 = b.length from by omega, List.take_left]
  unfold soundN
  rw [hsz, if_neg (by omega), hx, str_toList, if_neg]
  intro h
  refine h ?_
  unfold wordN
  rw [bN_app (i := 0) _ (by omega), bN_app (i := 1) _ (by omega), bN_app (i := 2) _ (by omega), bN_app (i := 3) _ (by omega)]
  generalize crcL b = c at hc ⊢
  have e0 : ((four c).getD 0 0).toNat = c % 256 := u8_mod c
  have e1 : ((four c).getD 1 0).toNat = c / 256 % 256 := u8_mod _
  have e2 : ((four c).getD 2 0).toNat = c / 65536 % 256 := u8_mod _
  have e3 : ((four c).getD 3 0).toNat = c / 16777216 % 256 := u8_mod _
  rw [e0, e1, e2, e3]
  omega
theorem extract_app (a b : List UInt8) : (str (a ++ b)).extract a.length (a ++ b).length = str b := by
  rw [extract_str, str_toList, List.drop_left, List.take_of_length_le (by rw [List.length_append]; omega)]
theorem marks_len (l : List Vl) : (marks l).length = l.length := List.length_map _
/-- The null values are counted by the marks. -/
theorem marks_count : ∀ l : List Vl, (marks l).count true = l.length - (some' l).length
  | [] => rfl
  | x :: l => by
    have ih := marks_count l
    have h := some_len l
    cases hx : x.nu with
    | true =>
      have e1 : marks (x :: l) = true :: marks l := by unfold marks; rw [List.map_cons, hx]
      have e2 : some' (x :: l) = some' l := by unfold some'; rw [List.filter_cons, hx]; rfl
      rw [e1, e2, List.count_cons_self, ih, List.length_cons]; omega
    | false =>
      have e1 : marks (x :: l) = false :: marks l := by unfold marks; rw [List.map_cons, hx]
      have e2 : some' (x :: l) = x :: some' l := by unfold some'; rw [List.filter_cons, hx]; rfl
      rw [e1, e2, List.count_cons_of_ne (by decide), ih, List.length_cons, List.length_cons]; omega
theorem marks_none {l : List Vl} (h : (some' l).length = l.length) : marks l = List.replicate l.length false := by
  have hc := marks_count l
  rw [h, Nat.sub_self, List.count_eq_zero] at hc
  refine List.eq_replicate_iff.2 ⟨marks_len l, fun b hb => ?_⟩
  cases b with
  | false => rfl
  | true => exact absurd hb hc
/-- What Check says of a valid value. -/
theorem chk_null {typ : Int} {nu : Bool} {x : Vl} (hT : okT typ = true) (h : chkV typ nu x = 0) (hx : x.nu = true) : x = ⟨true, 0, ⟨#[]⟩⟩ := by
  obtain ⟨xn, n, s⟩ := x
  simp only at hx; subst hx
  unfold chkV at h
  simp only at h
  rw [chk_nul hT] at h
  by_cases hh : n ≠ 0 ∨ s.size ≠ 0
  · rw [if_pos hh] at h; cases h
  · have h1 : n = 0 := by omega
    have h2 : s.size = 0 := by omega
    have h3 : s = ⟨#[]⟩ := ByteArray.ext (Array.ext' (List.eq_nil_of_length_eq_zero (by rw [size_list]; exact h2)))
    rw [h1, h3]
theorem chk_pure {typ : Int} {nu : Bool} {x : Vl} (hT : okT typ = true) (h : chkV typ nu x = 0) (hx : x.nu = false) (hn : -9223372036854775808 ≤ x.n ∧ x.n ≤ 9223372036854775807) : pure' typ x := by
  obtain ⟨xn, n, s⟩ := x
  simp only at hx; subst hx
  unfold chkV at h
  simp only at h
  rw [chk_val hT] at h
  by_cases hh : (typ = 3 ∧ n ≠ 0) ∨ (typ ≠ 3 ∧ s.size ≠ 0)
  · rw [if_pos hh] at h; cases h
  · rw [if_neg hh] at h
    refine ⟨rfl, ?_⟩
    by_cases ht : typ = 3
    · rw [if_pos ht]
      subst ht
      have hk : okP 3 n s = true := by
        cases hk : okP 3 n s with
        | true => rfl
        | false => rw [hk] at h; cases h
      have h64 : s.size ≤ 64 := by
        unfold okP at hk
        rw [if_neg (by decide), if_pos rfl] at hk
        exact of_decide_eq_true hk
      exact ⟨by simp only; omega, by simp only; omega⟩
    · rw [if_neg ht]
      have h2 : s.size = 0 := by omega
      exact ⟨ByteArray.ext (Array.ext' (List.eq_nil_of_length_eq_zero (by rw [size_list]; exact h2))), hn⟩
end Go.CK
