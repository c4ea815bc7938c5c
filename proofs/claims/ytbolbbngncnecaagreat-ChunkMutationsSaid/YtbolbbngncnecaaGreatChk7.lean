/- Chunks: the four bytes of a checksum compared; the sizes of payloads; valid values. -/
import Derived.Test.YtbolbbngncnecaaGreatChk6
namespace Go.CK
open Go.RowKit Go.VB Go.VarM Go.BP Go.RL Go.VS Go.VL Go.NU Go.Proofs.YtbolbbngncnecaaGreat
theorem four_iff {c : Nat} (hc : c < 4294967296) {x0 x1 x2 x3 : UInt8} : [x0, x1, x2, x3] = four c ↔ x0.toNat + 256 * x1.toNat + 65536 * x2.toNat + 16777216 * x3.toNat = c := by
  have h0 := UInt8.toNat_lt x0; have h1 := UInt8.toNat_lt x1; have h2 := UInt8.toNat_lt x2; have h3 := UInt8.toNat_lt x3
  unfold four
  simp only [List.cons.injEq, and_true]
  have e : ∀ (x : UInt8) (n : Nat), x = UInt8.ofNat (n % 256) ↔ x.toNat = n % 256 := fun x n => by
    constructor
    · intro h; rw [h]; exact u8_mod n
    · intro h; apply UInt8.toNat_inj.1; rw [u8_mod]; exact h
  rw [e, e, e, e]
  omega
/-- The last four bytes are those of a checksum if and only if their number is it. -/
theorem last_four {s : ByteArray} (h : 5 ≤ s.size) {c : Nat} (hc : c < 4294967296) : s.extract (s.size - 4) s.size = str (four c) ↔ wordN s (s.size - 4) = c := by
  obtain ⟨b, x0, x1, x2, x3, hb, hb1⟩ := last4 (T := s.data.toList) (by rw [size_list]; exact h)
  obtain rfl : s = str (b ++ [x0, x1, x2, x3]) := by rw [← hb, str_of]
  have hsz : (str (b ++ [x0, x1, x2, x3])).size = b.length + 4 := by rw [str_size, List.length_append]; rfl
  have hw : wordN (str (b ++ [x0, x1, x2, x3])) (b.length + 4 - 4) = x0.toNat + 256 * x1.toNat + 65536 * x2.toNat + 16777216 * x3.toNat := by
    unfold wordN
    rw [bN_app (i := 0) _ (by omega), bN_app (i := 1) _ (by omega), bN_app (i := 2) _ (by omega), bN_app (i := 3) _ (by omega)]
    rfl
  have hx : (str (b ++ [x0, x1, x2, x3])).extract (b.length + 4 - 4) (b.length + 4) = str [x0, x1, x2, x3] := by
    have := extract_app b [x0, x1, x2, x3]
    rw [show (b ++ [x0, x1, x2, x3]).length = b.length + 4 from by rw [List.length_append]; rfl] at this
    exact this
  rw [hsz, hw, hx, ← four_iff hc]
  exact ⟨fun h => str_inj h, fun h => by rw [h]⟩
theorem soundN_short {s : ByteArray} (h : s.size < 5) : soundN s = 10 := by unfold soundN; rw [if_pos h]
theorem soundN_bad {s : ByteArray} (h : 5 ≤ s.size) (hw : wordN s (s.size - 4) ≠ crcL (s.extract 0 (s.size - 4)).data.toList) : soundN s = 9 := by unfold soundN; rw [if_neg (by omega), if_pos hw]
theorem soundN_ok {s : ByteArray} (h : 5 ≤ s.size) (hw : wordN s (s.size - 4) = crcL (s.extract 0 (s.size - 4)).data.toList) : soundN s = 0 := by unfold soundN; rw [if_neg (by omega), if_neg (fun h => h hw)]
theorem wordN_lt (s : ByteArray) (p : Nat) : wordN s p < 4294967296 := by
  unfold wordN
  have h0 := bN_lt s p; have h1 := bN_lt s (p + 1); have h2 := bN_lt s (p + 2); have h3 := bN_lt s (p + 3)
  omega
/-- The code of the first value that is not valid. -/
def firstE (typ : Int) (nu : Bool) (l : List Vl) : Nat := match l.find? fun x => chkV typ nu x != 0 with
  | some x => chkV typ nu x
  | none => 0
theorem firstE_hit {typ : Int} {nu : Bool} {l : List Vl} {i : Nat} {x : Vl} (hi : l[i]? = some x) (hbad : chkV typ nu x ≠ 0) (hgood : ∀ j y, j < i → l[j]? = some y → chkV typ nu y = 0) : firstE typ nu l = chkV typ nu x := by
  have hf := find_hit (p := fun x => chkV typ nu x != 0) hi (by simpa using hbad) (fun j y hj hy => by simp [hgood j y hj hy])
  unfold firstE; rw [hf]
theorem firstE_none {typ : Int} {nu : Bool} {l : List Vl} (h : ∀ x ∈ l, chkV typ nu x = 0) : firstE typ nu l = 0 := by
  have hf : l.find? (fun x => chkV typ nu x != 0) = none := List.find?_eq_none.2 (fun x hx => by simp [h x hx])
  unfold firstE; rw [hf]
theorem firstE_zero {typ : Int} {nu : Bool} {l : List Vl} : firstE typ nu l = 0 ↔ ∀ x ∈ l, chkV typ nu x = 0 := by
  refine ⟨fun h => ?_, firstE_none⟩
  unfold firstE at h
  intro x hx
  cases hf : l.find? (fun x => chkV typ nu x != 0) with
  | some y =>
    have h2 := List.find?_some hf
    rw [hf] at h
    simp only [bne_iff_ne, ne_eq] at h2
    exact absurd h h2
  | none =>
    have := List.find?_eq_none.1 hf x hx
    simpa using this
theorem encE_first {typ : Int} {nu : Bool} {l : List Vl} (hT : okT typ = true) (hl : l.length ≤ 4096) : encE typ nu l = firstE typ nu l := by
  unfold encE firstE; rw [if_neg (by simp [hT]), if_neg (by omega)]; rfl
theorem chkV_le (typ : Int) (nu : Bool) (x : Vl) : chkV typ nu x ≤ 12 := by
  unfold chkV chk
  repeat' split
  all_goals omega
/-- What Decode finds, as the program finds it. -/
theorem decC_val {typ : Int} {nu : Bool} {s : ByteArray} (hT : okT typ = true) (hs : soundN s = 0) :
    decC typ nu s = match valD typ (s.extract 0 (s.size - 4)) with
      | some l => if firstE typ nu l = 0 then (l, 0) else ([], 2)
      | none => ([], 2) := by
  unfold decC
  rw [if_neg (by simp [hT]), if_neg (by simp [hs]), body_val]
  cases h : valD typ (s.extract 0 (s.size - 4)) with
  | none => rfl
  | some l =>
    simp only [Option.bind_some]
    by_cases hv : ∀ x ∈ l, chkV typ nu x = 0
    · rw [if_pos hv, if_pos (firstE_none hv)]
    · rw [if_neg hv, if_neg (fun e => hv (firstE_zero.1 e))]
theorem decC_type {typ : Int} {nu : Bool} {s : ByteArray} (hT : okT typ = false) : decC typ nu s = ([], 1) := by unfold decC; rw [if_pos hT]
theorem decC_bad {typ : Int} {nu : Bool} {s : ByteArray} (hT : okT typ = true) (hs : soundN s ≠ 0) : decC typ nu s = ([], soundN s) := by unfold decC; rw [if_neg (by simp [hT]), if_pos hs]
theorem chkV_size {typ : Int} {nu : Bool} {x : Vl} (hT : okT typ = true) (h : chkV typ nu x = 0) : x.s.size ≤ 64 := by
  cases hx : x.nu with
  | true => rw [chk_null hT h hx]; decide
  | false =>
    obtain ⟨xn, n, s⟩ := x
    simp only at hx; subst hx
    unfold chkV at h
    simp only at h
    rw [chk_val hT] at h
    by_cases hh : (typ = 3 ∧ n ≠ 0) ∨ (typ ≠ 3 ∧ s.size ≠ 0)
    · rw [if_pos hh] at h; cases h
    · rw [if_neg hh] at h
      by_cases ht : typ = 3
      · subst ht
        have hk : okP 3 n s = true := by
          cases hk : okP 3 n s with
          | true => rfl
          | false => rw [hk] at h; cases h
        unfold okP at hk
        rw [if_neg (by decide), if_pos rfl] at hk
        exact of_decide_eq_true hk
      · show s.size ≤ 64
        omega
/-- A value that keep's value makes is valid for its column. -/
theorem chkV_of {ty : Int} {nu nul : Bool} {n : Int} {s : ByteArray} (h : chk ty true nul n s = 0) (hn : nul = true → nu = true) : chkV ty nu ⟨nul, n, s⟩ = 0 := by
  show chk ty nu nul n s = 0
  cases nu with
  | true => exact h
  | false =>
    cases nul with
    | true => exact absurd (hn rfl) (by decide)
    | false => unfold chk at h ⊢; exact h
end Go.CK
