/- Chunks: the payloads, the bytes of a chunk, what is read of a text. -/
import Derived.Test.YtnmlajmaffiigaaGreatDoorGl
import Derived.Test.YtnmlajmaffiigaaGreatDoorGn
import Derived.Test.YtnmlajmaffiigaaGreatDoorGj
import Derived.Test.YtnmlajmaffiigaaGreatDoorGd
import Derived.Test.YtnmlajmaffiigaaGreatDoorDlt
namespace Go.CK
open Go.RowKit Go.VB Go.VarM Go.BP Go.RL Go.VS Go.Proofs.YtnmlajmaffiigaaGreatDoor
/-- The numbers, the texts, the marks of values. -/
def nums (l : List Vl) : List Int := l.map Vl.n
def txts (l : List Vl) : List ByteArray := l.map Vl.s
def marks (l : List Vl) : List Bool := l.map Vl.nu
/-- The values that are not null. -/
def some' (l : List Vl) : List Vl := l.filter fun v => !v.nu
theorem some_len (l : List Vl) : (some' l).length ≤ l.length := List.length_filter_le _ _
theorem some_snoc {l : List Vl} {j : Nat} {x : Vl} (h : l[j]? = some x) : some' (l.take (j + 1)) = if x.nu then some' (l.take j) else some' (l.take j) ++ [x] := by
  unfold some'
  rw [List.take_add_one, h, List.filter_append]
  cases hx : x.nu <;> simp [hx]
/-- One value of the codec Plain. -/
def one (typ : Int) (v : Vl) : List UInt8 := if typ = 3 then putL v.s.size ++ v.s.data.toList else putL (zigN v.n).toNat
def plainB (typ : Int) (l : List Vl) : List UInt8 := l.flatMap (one typ)
theorem plain_nil (typ : Int) : plainB typ [] = [] := rfl
theorem plain_cons (typ : Int) (x : Vl) (l : List Vl) : plainB typ (x :: l) = one typ x ++ plainB typ l := rfl
theorem plain_snoc {typ : Int} {l : List Vl} {j : Nat} {x : Vl} (h : l[j]? = some x) : plainB typ (l.take (j + 1)) = plainB typ (l.take j) ++ one typ x := by
  unfold plainB
  rw [List.take_add_one, h, List.flatMap_append]; simp
/-- The payload with a codec. -/
def payB (typ codec : Int) (l : List Vl) : List UInt8 :=
  if codec = 2 then encR (nums l) else if codec = 3 then Go.DI.encD (txts l) else if codec = 4 then Go.DL.encX (nums l) else plainB typ l
/-- Whether a type uses a codec. -/
def uses (typ codec : Int) : Bool := if typ = 3 then decide (codec = 1 ∨ codec = 3) else decide (codec = 1 ∨ codec = 2 ∨ codec = 4)
/-- The four bytes of a checksum. -/
def four (c : Nat) : List UInt8 := [UInt8.ofNat (c % 256), UInt8.ofNat (c / 256 % 256), UInt8.ofNat (c / 65536 % 256), UInt8.ofNat (c / 16777216 % 256)]
/-- The checksum of bytes. -/
def crcL (s : List UInt8) : Nat := Go.CR.sumL Go.CR.tab s
/-- A chunk without its checksum, and with it. -/
def bodyB (typ codec : Int) (l : List Vl) : List UInt8 :=
  [UInt8.ofNat codec.toNat] ++ putL l.length ++ putL (l.length - (some' l).length) ++ (if (some' l).length < l.length then (Go.NU.bmp (marks l)).data.toList else []) ++ payB typ codec (some' l)
def buildB (typ codec : Int) (l : List Vl) : List UInt8 := bodyB typ codec l ++ four (crcL (bodyB typ codec l))

/-! reading -/
section
variable {typ : Int} {s : ByteArray} {m : Nat} {p : Int} {acc : List Vl}
end
theorem payB_1 (typ : Int) (l : List Vl) : payB typ 1 l = plainB typ l := by unfold payB; rw [if_neg (by decide), if_neg (by decide), if_neg (by decide)]
theorem payB_2 (typ : Int) (l : List Vl) : payB typ 2 l = encR (nums l) := by unfold payB; rw [if_pos rfl]
theorem payB_3 (typ : Int) (l : List Vl) : payB typ 3 l = Go.DI.encD (txts l) := by unfold payB; rw [if_neg (by decide), if_pos rfl]
theorem payB_4 (typ : Int) (l : List Vl) : payB typ 4 l = Go.DL.encX (nums l) := by unfold payB; rw [if_neg (by decide), if_neg (by decide), if_pos rfl]
section
variable (typ : Int) (s : ByteArray) (n : Nat)
end
/-- The values, with the null ones in their places. -/
def weave : List Bool → List Vl → List Vl
  | [], _ => []
  | true :: b, l => ⟨true, 0, ⟨#[]⟩⟩ :: weave b l
  | false :: b, [] => vl0 :: weave b []
  | false :: b, x :: l => x :: weave b l
end Go.CK

namespace Go.CK
open Go.RowKit Go.VB Go.VarM Go.BP Go.RL Go.VS Go.VL Go.Proofs.YtnmlajmaffiigaaGreatDoor
/-- The values behind the marks, if each is valid. -/
def fin (typ : Int) (nu : Bool) (b : List Bool) (l : List Vl) : Option (List Vl) := if ∀ x ∈ weave b l, chkV typ nu x = 0 then some (weave b l) else none
/-- What Encode finds first. -/
def encE (typ : Int) (nu : Bool) (l : List Vl) : Nat :=
  if okT typ = false then 1 else if 4096 < l.length then 7 else match l.find? fun x => chkV typ nu x != 0 with
  | some x => chkV typ nu x
  | none => 0
/-- The shorter one of two chunks, the first one of equal ones. -/
def bestB (typ : Int) (l : List Vl) : List UInt8 :=
  if typ = 3 then (if (buildB typ 3 l).length < (buildB typ 1 l).length then buildB typ 3 l else buildB typ 1 l)
  else if (buildB typ 2 l).length < (buildB typ 1 l).length then (if (buildB typ 4 l).length < (buildB typ 2 l).length then buildB typ 4 l else buildB typ 2 l)
  else (if (buildB typ 4 l).length < (buildB typ 1 l).length then buildB typ 4 l else buildB typ 1 l)

theorem crcL_lt (s : List UInt8) : crcL s < 4294967296 := Go.CR.sumL_lt (fun x hx => by
  have : ∀ x ∈ Go.CR.tab, x < 4294967296 := by decide +kernel
  exact this x hx) s
theorem u8_mod (n : Nat) : (UInt8.ofNat (n % 256)).toNat = n % 256 := by rw [UInt8.toNat_ofNat']; omega
theorem marks_len (l : List Vl) : (marks l).length = l.length := List.length_map _
/-- The null values are counted by the marks. -/
theorem marks_count : ∀ l : List Vl, (marks l).count true = l.length - (some' l).length
  | [] => rfl
  | x :: l => by
    have ih := marks_count l
    have h := some_len l
    cases hx : x.nu with
    | true =>
      have e1 : marks (x :: l) = true :: marks l := by unfold marks; rw [List.map_cons, hx]
      have e2 : some' (x :: l) = some' l := by unfold some'; rw [List.filter_cons, hx]; rfl
      rw [e1, e2, List.count_cons_self, ih, List.length_cons]; omega
    | false =>
      have e1 : marks (x :: l) = false :: marks l := by unfold marks; rw [List.map_cons, hx]
      have e2 : some' (x :: l) = x :: some' l := by unfold some'; rw [List.filter_cons, hx]; rfl
      rw [e1, e2, List.count_cons_of_ne (by decide), ih, List.length_cons, List.length_cons]; omega
/-- What Check says of a valid value. -/
theorem chk_null {typ : Int} {nu : Bool} {x : Vl} (hT : okT typ = true) (h : chkV typ nu x = 0) (hx : x.nu = true) : x = ⟨true, 0, ⟨#[]⟩⟩ := by
  obtain ⟨xn, n, s⟩ := x
  simp only at hx; subst hx
  unfold chkV at h
  simp only at h
  rw [chk_nul hT] at h
  by_cases hh : n ≠ 0 ∨ s.size ≠ 0
  · rw [if_pos hh] at h; cases h
  · have h1 : n = 0 := by omega
    have h2 : s.size = 0 := by omega
    have h3 : s = ⟨#[]⟩ := ByteArray.ext (Array.ext' (List.eq_nil_of_length_eq_zero (by rw [size_list]; exact h2)))
    rw [h1, h3]
end Go.CK

namespace Go.CK
open Go.RowKit Go.VB Go.VarM Go.BP Go.RL Go.VS Go.VL Go.NU Go.Proofs.YtnmlajmaffiigaaGreatDoor
theorem ones_bmp_take (l : List Bool) : ∀ i, i ≤ l.length → ones (num (bmp l)) i = (l.take i).count true
  | 0, _ => rfl
  | i + 1, h => by
    have hx : l[i]? = some (l[i]'(by omega)) := List.getElem?_eq_getElem _
    rw [ones_succ, ones_bmp_take l i (by omega), bit_bmp hx, List.take_add_one, hx, List.count_append]
    congr 1
    cases l[i] <;> rfl
theorem ones_bmp (l : List Bool) : ones (num (bmp l)) (8 * ((l.length + 7) / 8)) = l.count true := by
  obtain ⟨d, hd⟩ : ∃ d, 8 * ((l.length + 7) / 8) = l.length + d := ⟨8 * ((l.length + 7) / 8) - l.length, by omega⟩
  rw [hd, ones_add, Nat.div_eq_of_lt (by rw [bmp_num]; exact bmp_big l), ones_none, Nat.add_zero, ones_bmp_take l _ (Nat.le_refl _), List.take_length]
end Go.CK

namespace Go.CK
open Go.RowKit Go.VB Go.VarM Go.BP Go.RL Go.VS Go.VL Go.Proofs.YtnmlajmaffiigaaGreatDoor
theorem tab_len : Go.CR.tab.length = 256 := by simp [Go.CR.tab]
theorem tab_lt : ∀ x ∈ Go.CR.tab, x < 4294967296 := by decide +kernel
end Go.CK

namespace Go.CK
open Go.RowKit Go.VB Go.VarM Go.BP Go.RL Go.VS Go.VL Go.Proofs.YtnmlajmaffiigaaGreatDoor
section
variable {typ : Int} {nu : Bool} {l : List Vl}
theorem encE_type (h : okT typ = false) : encE typ nu l = 1 := by unfold encE; rw [if_pos h]
theorem encE_full (hT : okT typ = true) (h : 4096 < l.length) : encE typ nu l = 7 := by unfold encE; rw [if_neg (by simp [hT]), if_pos h]
theorem find_hit {p : Vl → Bool} : ∀ {l : List Vl} {i : Nat} {x : Vl}, l[i]? = some x → p x = true → (∀ j y, j < i → l[j]? = some y → p y = false) → l.find? p = some x
  | [], i, x, h, _, _ => by simp at h
  | a :: l, 0, x, h, hp, _ => by
    simp at h; subst h
    rw [List.find?_cons, hp]
  | a :: l, i + 1, x, h, hp, hb => by
    have ha := hb 0 a (by omega) rfl
    rw [List.find?_cons, ha]
    exact find_hit (l := l) (i := i) (by simpa using h) hp (fun j y hj hy => hb (j + 1) y (by omega) (by simpa using hy))
theorem encE_none (hT : okT typ = true) (hl : l.length ≤ 4096) (h : ∀ x ∈ l, chkV typ nu x = 0) : encE typ nu l = 0 := by
  have hf : l.find? (fun x => chkV typ nu x != 0) = none := List.find?_eq_none.2 (fun x hx => by simp [h x hx])
  unfold encE
  rw [if_neg (by simp [hT]), if_neg (by omega), hf]
end
theorem uses_cases {typ : Int} {i : Nat} (h : uses typ i = true) : (typ = 3 ∧ (i = 1 ∨ i = 3)) ∨ (typ ≠ 3 ∧ (i = 1 ∨ i = 2 ∨ i = 4)) := by
  unfold uses at h
  by_cases ht : typ = 3
  · rw [if_pos ht, decide_eq_true_iff] at h; left; exact ⟨ht, by omega⟩
  · rw [if_neg ht, decide_eq_true_iff] at h; right; exact ⟨ht, by omega⟩
theorem uses_t3 {typ : Int} (h : typ = 3) : uses typ ((1 : Nat) : Int) = true ∧ uses typ ((3 : Nat) : Int) = true := by unfold uses; rw [if_pos h, if_pos h]; decide
theorem uses_tn {typ : Int} (h : typ ≠ 3) : uses typ ((1 : Nat) : Int) = true ∧ uses typ ((2 : Nat) : Int) = true ∧ uses typ ((4 : Nat) : Int) = true := by unfold uses; rw [if_neg h, if_neg h, if_neg h]; decide
/-- The shortest chunk is one of those that the type uses, none of them is shorter, and those with a lesser codec are longer. -/
theorem best_spec (typ : Int) (l : List Vl) : ∃ k : Nat, 1 ≤ k ∧ k ≤ 4 ∧ uses typ k = true ∧ bestB typ l = buildB typ k l ∧ ∀ i : Nat, uses typ i = true → (buildB typ k l).length ≤ (buildB typ i l).length ∧ (i < k → (buildB typ k l).length < (buildB typ i l).length) := by
  by_cases ht : typ = 3
  · have hu := uses_t3 ht
    unfold bestB
    rw [if_pos ht]
    by_cases h : (buildB typ 3 l).length < (buildB typ 1 l).length
    · rw [if_pos h]
      refine ⟨3, by omega, by omega, hu.2, rfl, fun i hi => ?_⟩
      rcases uses_cases hi with ⟨_, rfl | rfl⟩ | ⟨h', _⟩
      · exact ⟨Nat.le_of_lt h, fun _ => h⟩
      · exact ⟨Nat.le_refl _, fun h => absurd h (by omega)⟩
      · exact absurd ht h'
    · rw [if_neg h]
      refine ⟨1, by omega, by omega, hu.1, rfl, fun i hi => ?_⟩
      rcases uses_cases hi with ⟨_, rfl | rfl⟩ | ⟨h', _⟩
      · exact ⟨Nat.le_refl _, fun h => absurd h (by omega)⟩
      · exact ⟨Nat.le_of_not_lt h, fun h => absurd h (by omega)⟩
      · exact absurd ht h'
  · have hu := uses_tn ht
    unfold bestB
    rw [if_neg ht]
    obtain ⟨b1, h1⟩ : ∃ b, buildB typ 1 l = b := ⟨_, rfl⟩
    obtain ⟨b2, h2'⟩ : ∃ b, buildB typ 2 l = b := ⟨_, rfl⟩
    obtain ⟨b4, h4⟩ : ∃ b, buildB typ 4 l = b := ⟨_, rfl⟩
    have e1 : buildB typ ((1 : Nat) : Int) l = b1 := h1
    have e2 : buildB typ ((2 : Nat) : Int) l = b2 := h2'
    have e4 : buildB typ ((4 : Nat) : Int) l = b4 := h4
    rw [h1, h2', h4]
    by_cases h : b2.length < b1.length
    · rw [if_pos h]
      by_cases h2 : b4.length < b2.length
      · rw [if_pos h2]
        refine ⟨4, by omega, by omega, hu.2.2, e4.symm, fun i hi => ?_⟩
        rw [e4]
        rcases uses_cases hi with ⟨h', _⟩ | ⟨_, rfl | rfl | rfl⟩
        · exact absurd h' ht
        · rw [e1]; exact ⟨by omega, fun _ => by omega⟩
        · rw [e2]; exact ⟨by omega, fun _ => by omega⟩
        · rw [e4]; exact ⟨by omega, fun _ => by omega⟩
      · rw [if_neg h2]
        refine ⟨2, by omega, by omega, hu.2.1, e2.symm, fun i hi => ?_⟩
        rw [e2]
        rcases uses_cases hi with ⟨h', _⟩ | ⟨_, rfl | rfl | rfl⟩
        · exact absurd h' ht
        · rw [e1]; exact ⟨by omega, fun _ => by omega⟩
        · rw [e2]; exact ⟨by omega, fun _ => by omega⟩
        · rw [e4]; exact ⟨by omega, fun _ => by omega⟩
    · rw [if_neg h]
      by_cases h2 : b4.length < b1.length
      · rw [if_pos h2]
        refine ⟨4, by omega, by omega, hu.2.2, e4.symm, fun i hi => ?_⟩
        rw [e4]
        rcases uses_cases hi with ⟨h', _⟩ | ⟨_, rfl | rfl | rfl⟩
        · exact absurd h' ht
        · rw [e1]; exact ⟨by omega, fun _ => by omega⟩
        · rw [e2]; exact ⟨by omega, fun _ => by omega⟩
        · rw [e4]; exact ⟨by omega, fun _ => by omega⟩
      · rw [if_neg h2]
        refine ⟨1, by omega, by omega, hu.1, e1.symm, fun i hi => ?_⟩
        rw [e1]
        rcases uses_cases hi with ⟨h', _⟩ | ⟨_, rfl | rfl | rfl⟩
        · exact absurd h' ht
        · rw [e1]; exact ⟨by omega, fun _ => by omega⟩
        · rw [e2]; exact ⟨by omega, fun _ => by omega⟩
        · rw [e4]; exact ⟨by omega, fun _ => by omega⟩
theorem build_len (typ codec : Int) (l : List Vl) : 5 ≤ (buildB typ codec l).length := by
  unfold buildB bodyB
  simp only [List.length_append, List.length_cons, List.length_nil, show (four (crcL _)).length = 4 from rfl]
  omega
end Go.CK

namespace Go.CK
open Go.RowKit Go.VB Go.VarM Go.BP Go.RL Go.VS Go.VL Go.NU Go.Proofs.YtnmlajmaffiigaaGreatDoor
/-- A null value. -/
def nulV : Vl := ⟨true, 0, ⟨#[]⟩⟩
/-! which payload is the shortest -/
/-- The codec of the shortest payload. -/
def bestK (typ : Int) (l : List Vl) : Nat :=
  if typ = 3 then (if (payB typ 3 l).length < (payB typ 1 l).length then 3 else 1)
  else if (payB typ 2 l).length < (payB typ 1 l).length then (if (payB typ 4 l).length < (payB typ 2 l).length then 4 else 2)
  else (if (payB typ 4 l).length < (payB typ 1 l).length then 4 else 1)
theorem build_lt (typ a b : Int) (l : List Vl) : (buildB typ a l).length < (buildB typ b l).length ↔ (payB typ a (some' l)).length < (payB typ b (some' l)).length := by
  unfold buildB bodyB four
  simp only [List.length_append, List.length_cons, List.length_nil]
  omega
/-- The chunk with the shortest payload is the shortest chunk. -/
theorem best_is (typ : Int) (l : List Vl) : buildB typ (bestK typ (some' l)) l = bestB typ l := by
  unfold bestB bestK
  simp only [build_lt]
  by_cases ht : typ = 3
  · rw [if_pos ht, if_pos ht]
    by_cases h : (payB typ 3 (some' l)).length < (payB typ 1 (some' l)).length
    · rw [if_pos h, if_pos h]; rfl
    · rw [if_neg h, if_neg h]; rfl
  · rw [if_neg ht, if_neg ht]
    by_cases h : (payB typ 2 (some' l)).length < (payB typ 1 (some' l)).length
    · rw [if_pos h, if_pos h]
      by_cases h4 : (payB typ 4 (some' l)).length < (payB typ 2 (some' l)).length
      · rw [if_pos h4, if_pos h4]; rfl
      · rw [if_neg h4, if_neg h4]; rfl
    · rw [if_neg h, if_neg h]
      by_cases h4 : (payB typ 4 (some' l)).length < (payB typ 1 (some' l)).length
      · rw [if_pos h4, if_pos h4]; rfl
      · rw [if_neg h4, if_neg h4]; rfl
end Go.CK

namespace Go.CK
open Go.RowKit Go.VB Go.VarM Go.BP Go.RL Go.VS Go.VL Go.NU Go.Proofs.YtnmlajmaffiigaaGreatDoor
/-- The code of the first value that is not valid. -/
def firstE (typ : Int) (nu : Bool) (l : List Vl) : Nat := match l.find? fun x => chkV typ nu x != 0 with
  | some x => chkV typ nu x
  | none => 0
theorem firstE_hit {typ : Int} {nu : Bool} {l : List Vl} {i : Nat} {x : Vl} (hi : l[i]? = some x) (hbad : chkV typ nu x ≠ 0) (hgood : ∀ j y, j < i → l[j]? = some y → chkV typ nu y = 0) : firstE typ nu l = chkV typ nu x := by
  have hf := find_hit (p := fun x => chkV typ nu x != 0) hi (by simpa using hbad) (fun j y hj hy => by simp [hgood j y hj hy])
  unfold firstE; rw [hf]
theorem firstE_none {typ : Int} {nu : Bool} {l : List Vl} (h : ∀ x ∈ l, chkV typ nu x = 0) : firstE typ nu l = 0 := by
  have hf : l.find? (fun x => chkV typ nu x != 0) = none := List.find?_eq_none.2 (fun x hx => by simp [h x hx])
  unfold firstE; rw [hf]
theorem firstE_zero {typ : Int} {nu : Bool} {l : List Vl} : firstE typ nu l = 0 ↔ ∀ x ∈ l, chkV typ nu x = 0 := by
  refine ⟨fun h => ?_, firstE_none⟩
  unfold firstE at h
  intro x hx
  cases hf : l.find? (fun x => chkV typ nu x != 0) with
  | some y =>
    have h2 := List.find?_some hf
    rw [hf] at h
    simp only [bne_iff_ne, ne_eq] at h2
    exact absurd h h2
  | none =>
    have := List.find?_eq_none.1 hf x hx
    simpa using this
theorem encE_first {typ : Int} {nu : Bool} {l : List Vl} (hT : okT typ = true) (hl : l.length ≤ 4096) : encE typ nu l = firstE typ nu l := by
  unfold encE firstE; rw [if_neg (by simp [hT]), if_neg (by omega)]; all_goals rfl
theorem chkV_size {typ : Int} {nu : Bool} {x : Vl} (hT : okT typ = true) (h : chkV typ nu x = 0) : x.s.size ≤ 64 := by
  cases hx : x.nu with
  | true => rw [chk_null hT h hx]; decide
  | false =>
    obtain ⟨xn, n, s⟩ := x
    simp only at hx; subst hx
    unfold chkV at h
    simp only at h
    rw [chk_val hT] at h
    by_cases hh : (typ = 3 ∧ n ≠ 0) ∨ (typ ≠ 3 ∧ s.size ≠ 0)
    · rw [if_pos hh] at h; cases h
    · rw [if_neg hh] at h
      by_cases ht : typ = 3
      · subst ht
        have hk : okP 3 n s = true := by
          cases hk : okP 3 n s with
          | true => rfl
          | false => rw [hk] at h; cases h
        unfold okP at hk
        rw [if_neg (by decide), if_pos rfl] at hk
        exact of_decide_eq_true hk
      · show s.size ≤ 64
        omega
end Go.CK

namespace Go.CK
open Go.RowKit Go.VB Go.VarM Go.BP Go.RL Go.VS Go.VL Go.NU Go.Proofs.YtnmlajmaffiigaaGreatDoor
/-- A value of a short text and of a number in range. -/
def Vok (x : Vl) : Prop := x.s.size ≤ 64 ∧ (-9223372036854775808 ≤ x.n ∧ x.n ≤ 9223372036854775807)
theorem one_le {typ : Int} {x : Vl} (h : Vok x) : (one typ x).length ≤ 74 := by
  unfold one
  by_cases ht : typ = 3
  · rw [if_pos ht, List.length_append, size_list]
    have := putL_len10 (n := x.s.size) (by have := h.1; omega)
    have := h.1
    omega
  · rw [if_neg ht]
    have := putL_len10 (n := (zigN x.n).toNat) (zig_lt h.2)
    omega
theorem plain_le {typ : Int} {l : List Vl} (h : ∀ x ∈ l, Vok x) : (plainB typ l).length ≤ 74 * l.length := by
  induction l with
  | nil => rw [plain_nil]; exact Nat.le_refl _
  | cons x l ih =>
    have h1 := one_le (typ := typ) (h x (List.mem_cons_self ..))
    have h2 := ih (fun y hy => h y (List.mem_cons_of_mem _ hy))
    rw [plain_cons, List.length_append, List.length_cons]
    omega
theorem wrds_le64 {ws : List ByteArray} (h : ∀ x ∈ ws, x.size ≤ 64) : (Go.DI.wrds ws).length ≤ 74 * ws.length := by
  induction ws with
  | nil => rw [Go.DI.wrds_nil]; exact Nat.le_refl _
  | cons w ws ih =>
    have h1 := h w (List.mem_cons_self ..)
    have h2 := ih (fun x hx => h x (List.mem_cons_of_mem _ hx))
    have h3 := putL_len10 (n := w.size) (by omega)
    rw [Go.DI.wrds_cons, List.length_append, Go.DI.wrd, List.length_append, size_list, List.length_cons]
    omega
theorem encD_le {l : List ByteArray} (hl : l.length ≤ 4096) (h : ∀ x ∈ l, x.size ≤ 64) : (Go.DI.encD l).length ≤ 310000 := by
  have h1 := Go.DI.srt_len l
  have h2 := wrds_le64 (ws := Go.DI.srt l) (fun x hx => h x (Go.DI.srt_mem.1 hx))
  have h3 := Go.DI.packed_le (u := Go.DI.idx l) (w := Go.DI.wdt (Go.DI.srt l).length) (by rw [Go.DI.idx_len]; omega) (Go.DI.wdt_le (by omega))
  have h4 := putL_len10 (n := (Go.DI.srt l).length) (by omega)
  rw [Go.DI.encD_in hl, Go.DI.encW, List.length_append, List.length_append]
  omega
theorem nums_ok {l : List Vl} (h : ∀ x ∈ l, Vok x) : I64 (nums l) := by
  intro z hz
  simp only [nums, List.mem_map] at hz
  obtain ⟨x, hx, rfl⟩ := hz
  exact (h x hx).2
theorem txts_ok {l : List Vl} (h : ∀ x ∈ l, Vok x) : ∀ s ∈ txts l, s.size ≤ 64 := by
  intro z hz
  simp only [txts, List.mem_map] at hz
  obtain ⟨x, hx, rfl⟩ := hz
  exact (h x hx).1
theorem pay_le {typ codec : Int} {l : List Vl} (hl : l.length ≤ 4096) (h : ∀ x ∈ l, Vok x) : (payB typ codec l).length ≤ 320000 := by
  unfold payB
  by_cases h2 : codec = 2
  · rw [if_pos h2]
    have := encR_len (nums_ok h)
    have e : (nums l).length = l.length := List.length_map _
    omega
  · rw [if_neg h2]
    by_cases h3 : codec = 3
    · rw [if_pos h3]
      have := encD_le (l := txts l) (by rw [show (txts l).length = l.length from List.length_map _]; exact hl) (txts_ok h)
      omega
    · rw [if_neg h3]
      by_cases h4 : codec = 4
      · rw [if_pos h4]
        have := Go.DL.encX_len (nums_ok h)
        omega
      · rw [if_neg h4]
        have := plain_le (typ := typ) h
        omega
/-- What stands between the codec and the payload. -/
def nulB (b : List Bool) : List UInt8 := putL b.length ++ putL (b.count true) ++ (if b.count true = 0 then [] else (Go.NU.bmp b).data.toList)
theorem nulB_le {b : List Bool} (h : b.length ≤ 4096) : (nulB b).length ≤ 540 := by
  unfold nulB
  have hc := List.count_le_length (a := true) (l := b)
  have h1 := putL_len10 (n := b.length) (by omega)
  have h2 := putL_len10 (n := b.count true) (by omega)
  have hs := bmp_size b
  rw [List.length_append, List.length_append]
  by_cases h0 : b.count true = 0
  · rw [if_pos h0]; simp; omega
  · rw [if_neg h0, size_list]; omega
/-- A chunk without its checksum, in its parts. -/
theorem body_parts (typ : Int) (k : Nat) (l : List Vl) : [UInt8.ofNat k] ++ nulB (marks l) ++ payB typ k (some' l) = bodyB typ k l := by
  have hc := marks_count l
  have hs := some_len l
  unfold bodyB nulB
  rw [hc, marks_len]
  by_cases h : (some' l).length < l.length
  · rw [if_pos h, if_neg (by omega)]
    simp only [List.append_assoc]; rfl
  · rw [if_neg h, if_pos (by omega)]
    simp only [List.append_assoc]; rfl
theorem some_ok {l : List Vl} (h : ∀ x ∈ l, Vok x) : ∀ x ∈ some' l, Vok x := fun x hx => h x (List.mem_filter.1 hx).1
theorem body_le {typ : Int} {k : Nat} {l : List Vl} (hl : l.length ≤ 4096) (h : ∀ x ∈ l, Vok x) : (bodyB typ k l).length ≤ 330000 := by
  have h1 := pay_le (typ := typ) (codec := k) (Nat.le_trans (some_len l) hl) (some_ok h)
  have h2 := nulB_le (b := marks l) (by rw [marks_len]; exact hl)
  rw [← body_parts, List.length_append, List.length_append, List.length_cons, List.length_nil]
  omega
theorem build_le {typ : Int} {k : Nat} {l : List Vl} (hl : l.length ≤ 4096) (h : ∀ x ∈ l, Vok x) : (buildB typ k l).length ≤ 330004 := by
  have := body_le (typ := typ) (k := k) hl h
  unfold buildB four
  rw [List.length_append]; simp; omega
/-- Valid values have short texts. -/
theorem ok_of {typ : Int} {nu : Bool} {l : List Vl} (hT : okT typ = true) (hv : ∀ x ∈ l, chkV typ nu x = 0) (hb : ∀ x ∈ l, -9223372036854775808 ≤ x.n ∧ x.n ≤ 9223372036854775807) : ∀ x ∈ l, Vok x :=
  fun x hx => ⟨chkV_size hT (hv x hx), hb x hx⟩
/-- The best codec so far. -/
def bstep (typ : Int) (l : List Vl) (b c : Nat) : Nat := if (payB typ c l).length < (payB typ b l).length then c else b
theorem best_3 (l : List Vl) : bstep 3 l 1 3 = bestK 3 l := by
  unfold bstep bestK
  rw [if_pos rfl]; rfl
theorem best_n {typ : Int} (h : typ ≠ 3) (l : List Vl) : bstep typ l (bstep typ l 1 2) 4 = bestK typ l := by
  unfold bestK
  rw [if_neg h]
  unfold bstep
  by_cases h2 : (payB typ 2 l).length < (payB typ 1 l).length
  · rw [if_pos (show (payB typ ((2 : Nat) : Int) l).length < (payB typ ((1 : Nat) : Int) l).length from h2), if_pos h2]; rfl
  · rw [if_neg (show ¬ (payB typ ((2 : Nat) : Int) l).length < (payB typ ((1 : Nat) : Int) l).length from h2), if_neg h2]; rfl
end Go.CK

namespace Go.CK
open Go.RowKit Go.VB Go.VarM Go.BP Go.RL Go.VS Go.VL Go.NU Go.Proofs.YtnmlajmaffiigaaGreatDoor
section
variable {typ : Int} {s : ByteArray} {p : Int} {a e : Nat} {b : Int}
end
end Go.CK
