/- Chunks: the first error of a list of values, the shortest chunk, its codec. -/
import Derived.Test.YtbolbbngncnecaaGreatChk4
namespace Go.CK
open Go.RowKit Go.VB Go.VarM Go.BP Go.RL Go.VS Go.VL Go.Proofs.YtbolbbngncnecaaGreat
section
variable {typ : Int} {nu : Bool} {l : List Vl}
theorem encE_type (h : okT typ = false) : encE typ nu l = 1 := by unfold encE; rw [if_pos h]
theorem encE_full (hT : okT typ = true) (h : 4096 < l.length) : encE typ nu l = 7 := by unfold encE; rw [if_neg (by simp [hT]), if_pos h]
theorem find_hit {p : Vl → Bool} : ∀ {l : List Vl} {i : Nat} {x : Vl}, l[i]? = some x → p x = true → (∀ j y, j < i → l[j]? = some y → p y = false) → l.find? p = some x
  | [], i, x, h, _, _ => by simp at h
  | a :: l, 0, x, h, hp, _ => by
    simp at h; subst h
    rw [List.find?_cons, hp]
  | a :: l, i + 1, x, h, hp, hb => by
    have ha := hb 0 a (by omega) rfl
    rw [List.find?_cons, ha]
    exact find_hit (l := l) (i := i) (by simpa using h) hp (fun j y hj hy => hb (j + 1) y (by omega) (by simpa using hy))
theorem encE_hit (hT : okT typ = true) (hl : l.length ≤ 4096) {i : Nat} {x : Vl} (hi : l[i]? = some x) (hbad : chkV typ nu x ≠ 0) (hgood : ∀ j y, j < i → l[j]? = some y → chkV typ nu y = 0) : encE typ nu l = chkV typ nu x := by
  have hf := find_hit (p := fun x => chkV typ nu x != 0) hi (by simpa using hbad) (fun j y hj hy => by simp [hgood j y hj hy])
  unfold encE
  rw [if_neg (by simp [hT]), if_neg (by omega), hf]
theorem encE_none (hT : okT typ = true) (hl : l.length ≤ 4096) (h : ∀ x ∈ l, chkV typ nu x = 0) : encE typ nu l = 0 := by
  have hf : l.find? (fun x => chkV typ nu x != 0) = none := List.find?_eq_none.2 (fun x hx => by simp [h x hx])
  unfold encE
  rw [if_neg (by simp [hT]), if_neg (by omega), hf]
theorem encE_mid {a b : List Vl} {v : Vl} (hT : okT typ = true) (hl : (a ++ v :: b).length ≤ 4096) (ha : ∀ x ∈ a, chkV typ nu x = 0) (hb : ∀ x ∈ b, chkV typ nu x = 0) : encE typ nu (a ++ v :: b) = chkV typ nu v := by
  by_cases hv : chkV typ nu v = 0
  · rw [hv]
    refine encE_none hT hl (fun x hx => ?_)
    rcases List.mem_append.1 hx with h | h
    · exact ha x h
    · rcases List.mem_cons.1 h with h | h
      · rw [h]; exact hv
      · exact hb x h
  · refine encE_hit hT hl (i := a.length) (by rw [List.getElem?_append_right (Nat.le_refl _), Nat.sub_self]; rfl) hv (fun j y hj hy => ?_)
    rw [List.getElem?_append_left hj] at hy
    exact ha y (List.mem_of_getElem? hy)
end
theorem uses_cases {typ : Int} {i : Nat} (h : uses typ i = true) : (typ = 3 ∧ (i = 1 ∨ i = 3)) ∨ (typ ≠ 3 ∧ (i = 1 ∨ i = 2 ∨ i = 4)) := by
  unfold uses at h
  by_cases ht : typ = 3
  · rw [if_pos ht, decide_eq_true_iff] at h; left; exact ⟨ht, by omega⟩
  · rw [if_neg ht, decide_eq_true_iff] at h; right; exact ⟨ht, by omega⟩
theorem uses_t3 {typ : Int} (h : typ = 3) : uses typ ((1 : Nat) : Int) = true ∧ uses typ ((3 : Nat) : Int) = true := by unfold uses; rw [if_pos h, if_pos h]; decide
theorem uses_tn {typ : Int} (h : typ ≠ 3) : uses typ ((1 : Nat) : Int) = true ∧ uses typ ((2 : Nat) : Int) = true ∧ uses typ ((4 : Nat) : Int) = true := by unfold uses; rw [if_neg h, if_neg h, if_neg h]; decide
/-- The shortest chunk is one of those that the type uses, none of them is shorter, and those with a lesser codec are longer. -/
theorem best_spec (typ : Int) (l : List Vl) : ∃ k : Nat, 1 ≤ k ∧ k ≤ 4 ∧ uses typ k = true ∧ bestB typ l = buildB typ k l ∧ ∀ i : Nat, uses typ i = true → (buildB typ k l).length ≤ (buildB typ i l).length ∧ (i < k → (buildB typ k l).length < (buildB typ i l).length) := by
  by_cases ht : typ = 3
  · have hu := uses_t3 ht
    unfold bestB
    rw [if_pos ht]
    by_cases h : (buildB typ 3 l).length < (buildB typ 1 l).length
    · rw [if_pos h]
      refine ⟨3, by omega, by omega, hu.2, rfl, fun i hi => ?_⟩
      rcases uses_cases hi with ⟨_, rfl | rfl⟩ | ⟨h', _⟩
      · exact ⟨Nat.le_of_lt h, fun _ => h⟩
      · exact ⟨Nat.le_refl _, fun h => absurd h (by omega)⟩
      · exact absurd ht h'
    · rw [if_neg h]
      refine ⟨1, by omega, by omega, hu.1, rfl, fun i hi => ?_⟩
      rcases uses_cases hi with ⟨_, rfl | rfl⟩ | ⟨h', _⟩
      · exact ⟨Nat.le_refl _, fun h => absurd h (by omega)⟩
      · exact ⟨Nat.le_of_not_lt h, fun h => absurd h (by omega)⟩
      · exact absurd ht h'
  · have hu := uses_tn ht
    unfold bestB
    rw [if_neg ht]
    obtain ⟨b1, h1⟩ : ∃ b, buildB typ 1 l = b := ⟨_, rfl⟩
    obtain ⟨b2, h2'⟩ : ∃ b, buildB typ 2 l = b := ⟨_, rfl⟩
    obtain ⟨b4, h4⟩ : ∃ b, buildB typ 4 l = b := ⟨_, rfl⟩
    have e1 : buildB typ ((1 : Nat) : Int) l = b1 := h1
    have e2 : buildB typ ((2 : Nat) : Int) l = b2 := h2'
    have e4 : buildB typ ((4 : Nat) : Int) l = b4 := h4
    rw [h1, h2', h4]
    by_cases h : b2.length < b1.length
    · rw [if_pos h]
      by_cases h2 : b4.length < b2.length
      · rw [if_pos h2]
        refine ⟨4, by omega, by omega, hu.2.2, e4.symm, fun i hi => ?_⟩
        rw [e4]
        rcases uses_cases hi with ⟨h', _⟩ | ⟨_, rfl | rfl | rfl⟩
        · exact absurd h' ht
        · rw [e1]; exact ⟨by omega, fun _ => by omega⟩
        · rw [e2]; exact ⟨by omega, fun _ => by omega⟩
        · rw [e4]; exact ⟨by omega, fun _ => by omega⟩
      · rw [if_neg h2]
        refine ⟨2, by omega, by omega, hu.2.1, e2.symm, fun i hi => ?_⟩
        rw [e2]
        rcases uses_cases hi with ⟨h', _⟩ | ⟨_, rfl | rfl | rfl⟩
        · exact absurd h' ht
        · rw [e1]; exact ⟨by omega, fun _ => by omega⟩
        · rw [e2]; exact ⟨by omega, fun _ => by omega⟩
        · rw [e4]; exact ⟨by omega, fun _ => by omega⟩
    · rw [if_neg h]
      by_cases h2 : b4.length < b1.length
      · rw [if_pos h2]
        refine ⟨4, by omega, by omega, hu.2.2, e4.symm, fun i hi => ?_⟩
        rw [e4]
        rcases uses_cases hi with ⟨h', _⟩ | ⟨_, rfl | rfl | rfl⟩
        · exact absurd h' ht
        · rw [e1]; exact ⟨by omega, fun _ => by omega⟩
        · rw [e2]; exact ⟨by omega, fun _ => by omega⟩
        · rw [e4]; exact ⟨by omega, fun _ => by omega⟩
      · rw [if_neg h2]
        refine ⟨1, by omega, by omega, hu.1, e1.symm, fun i hi => ?_⟩
        rw [e1]
        rcases uses_cases hi with ⟨h', _⟩ | ⟨_, rfl | rfl | rfl⟩
        · exact absurd h' ht
        · rw [e1]; exact ⟨by omega, fun _ => by omega⟩
        · rw [e2]; exact ⟨by omega, fun _ => by omega⟩
        · rw [e4]; exact ⟨by omega, fun _ => by omega⟩
theorem build_len (typ codec : Int) (l : List Vl) : 5 ≤ (buildB typ codec l).length := by
  unfold buildB bodyB
  simp only [List.length_append, List.length_cons, List.length_nil, show (four (crcL _)).length = 4 from rfl]
  omega
theorem sound_of_build (typ codec : Int) (l : List Vl) : soundN (str (buildB typ codec l)) = 0 :=
  sound_build (bodyB typ codec l) (by unfold bodyB; simp only [List.length_append, List.length_cons, List.length_nil]; omega)
/-- The codec of a chunk. -/
theorem codC_build {typ : Int} {k : Nat} {l : List Vl} (h1 : 1 ≤ k) (h4 : k ≤ 4) : codC (str (buildB typ k l)) = ((k : Int), 0) := by
  have h0 : bN (str (buildB typ k l)) 0 = k := by
    unfold buildB bodyB
    rw [Int.toNat_natCast]
    show (UInt8.ofNat k).toNat = k
    exact u8_small (by omega)
  unfold codC
  rw [sound_of_build, if_neg (by simp), h0, if_neg (by omega)]
end Go.CK
