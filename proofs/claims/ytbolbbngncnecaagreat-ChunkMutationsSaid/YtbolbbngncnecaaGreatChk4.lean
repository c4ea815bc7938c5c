/- Chunks: a change of two neighbouring bytes is seen; the shortest chunk. -/
import Derived.Test.YtbolbbngncnecaaGreatChk3
namespace Go.CK
open Go.RowKit Go.VB Go.VarM Go.BP Go.RL Go.VS Go.VL Go.Proofs.YtbolbbngncnecaaGreat
/-- What is left of every text with a right checksum. -/
def res : Nat := Go.CR.steps 32 4294967295
theorem steps_inj {u v : Nat} (hu : u < 4294967296) (hv : v < 4294967296) (h : Go.CR.steps 32 u = Go.CR.steps 32 v) : u = v := by
  have h1 := Go.CR.feed4 u 0 0 0 0
  have h2 := Go.CR.feed4 v 0 0 0 0
  have z : (0 : UInt8).toNat + 256 * (0 : UInt8).toNat + 65536 * (0 : UInt8).toNat + 16777216 * (0 : UInt8).toNat = 0 := rfl
  rw [z, Nat.xor_zero] at h1 h2
  exact Go.CR.feed_inj [0, 0, 0, 0] hu hv (by rw [h1, h2, h])
theorem xor_full {f : Nat} (h : f < 4294967296) : f ^^^ (4294967295 - f) = 4294967295 := by
  have h1 : f < 2 ^ 32 := h
  have e : 4294967295 - f = 2 ^ 32 - (f + 1) := by omega
  apply Nat.eq_of_testBit_eq
  intro i
  rw [Nat.testBit_xor, e, Nat.testBit_two_pow_sub_succ h1, show (4294967295 : Nat) = 2 ^ 32 - 1 from rfl, Nat.testBit_two_pow_sub_one]
  by_cases hi : i < 32
  · simp [hi]
  · have : f.testBit i = false := Nat.testBit_lt_two_pow (Nat.lt_of_lt_of_le h1 (Nat.pow_le_pow_right (by decide) (by omega)))
    simp [hi, this]
theorem tab_len : Go.CR.tab.length = 256 := by simp [Go.CR.tab]
theorem tab_lt : ∀ x ∈ Go.CR.tab, x < 4294967296 := by decide +kernel
/-- A checksum is right if and only if what is left is the same. -/
theorem sound_iff {b : List UInt8} {x0 x1 x2 x3 : UInt8} (hb : 1 ≤ b.length) : soundN (str (b ++ [x0, x1, x2, x3])) = 0 ↔ Go.CR.feed Go.CR.tab 4294967295 (b ++ [x0, x1, x2, x3]) = res := by
  have hsz : (str (b ++ [x0, x1, x2, x3])).size = b.length + 4 := by rw [str_size, List.length_append]; rfl
  have hx : (str (b ++ [x0, x1, x2, x3])).extract 0 (b.length + 4 - 4) = str b := by
    rw [extract_str, str_toList, List.drop_zero, show b.length + 4 - 4 - 0 = b.length from by omega, List.take_left]
  have hw : wordN (str (b ++ [x0, x1, x2, x3])) (b.length + 4 - 4) = x0.toNat + 256 * x1.toNat + 65536 * x2.toNat + 16777216 * x3.toNat := by
    unfold wordN
    rw [bN_app (i := 0) _ (by omega), bN_app (i := 1) _ (by omega), bN_app (i := 2) _ (by omega), bN_app (i := 3) _ (by omega)]
    rfl
  have hf := Go.CR.feed_lt tab_lt b (v := 4294967295) (by decide)
  have hcr : crcL b = 4294967295 - Go.CR.feed Go.CR.tab 4294967295 b := Go.CR.sumL_in tab_len b
  have h0 := UInt8.toNat_lt x0; have h1 := UInt8.toNat_lt x1; have h2 := UInt8.toNat_lt x2; have h3 := UInt8.toNat_lt x3
  rw [Go.CR.feed_append, Go.CR.feed4]
  unfold soundN
  rw [hsz, if_neg (by omega), hx, str_toList, hw, hcr]
  generalize Go.CR.feed Go.CR.tab 4294967295 b = f at hf
  obtain ⟨W, hW⟩ : ∃ W, x0.toNat + 256 * x1.toNat + 65536 * x2.toNat + 16777216 * x3.toNat = W := ⟨_, rfl⟩
  rw [hW]
  have hWb : W < 4294967296 := by omega
  constructor
  · intro h
    by_cases he : W = 4294967295 - f
    · rw [he, xor_full hf]; rfl
    · rw [if_pos he] at h; cases h
  · intro h
    have hx := steps_inj (Nat.xor_lt_two_pow (n := 32) hf hWb) (by decide) h
    have he : W = 4294967295 - f := by
      have h4 := xor_full hf
      have : f ^^^ (f ^^^ W) = f ^^^ (f ^^^ (4294967295 - f)) := by rw [hx, h4]
      rw [← Nat.xor_assoc, ← Nat.xor_assoc, Nat.xor_self, Nat.zero_xor, Nat.zero_xor] at this
      exact this
    rw [if_neg (by simp [he])]
theorem last4 {T : List UInt8} (h : 5 ≤ T.length) : ∃ b x0 x1 x2 x3, T = b ++ [x0, x1, x2, x3] ∧ 1 ≤ b.length := by
  have e := List.take_append_drop (T.length - 4) T
  have hd : (T.drop (T.length - 4)).length = 4 := by rw [List.length_drop]; omega
  match hq : T.drop (T.length - 4), hd with
  | [x0, x1, x2, x3], _ => exact ⟨T.take (T.length - 4), x0, x1, x2, x3, by rw [← hq, e], by rw [List.length_take]; omega⟩
theorem sound_feed {T : List UInt8} (h : 5 ≤ T.length) : soundN (str T) = 0 ↔ Go.CR.feed Go.CR.tab 4294967295 T = res := by
  obtain ⟨b, x0, x1, x2, x3, rfl, hb⟩ := last4 h
  exact sound_iff hb
theorem sound_or {s : ByteArray} (h : 5 ≤ s.size) : soundN s = 0 ∨ soundN s = 9 := by
  unfold soundN
  rw [if_neg (by omega)]
  by_cases he : wordN s (s.size - 4) ≠ crcL (s.extract 0 (s.size - 4)).data.toList
  · rw [if_pos he]; exact .inr rfl
  · rw [if_neg he]; exact .inl rfl
/-- Two texts that differ in two neighbouring bytes at most, and leave the same, are one. -/
theorem burst2 {T T' : List UInt8} (hlen : T'.length = T.length) (h4 : 4 ≤ T.length) {i : Nat} (hi : i + 1 < T.length) (hsame : ∀ m, m ≠ i → m ≠ i + 1 → T'[m]? = T[m]?)
    (hf : Go.CR.feed Go.CR.tab 4294967295 T = Go.CR.feed Go.CR.tab 4294967295 T') : T = T' := by
  obtain ⟨j, hj1, hj2, hj3⟩ : ∃ j, j ≤ i ∧ i + 1 < j + 4 ∧ j + 4 ≤ T.length := ⟨min i (T.length - 4), by omega, by omega, by omega⟩
  have hp : T'.take j = T.take j := by
    apply List.ext_getElem?
    intro m
    rw [List.getElem?_take, List.getElem?_take]
    by_cases hm : m < j
    · rw [if_pos hm, if_pos hm]; exact hsame m (by omega) (by omega)
    · rw [if_neg hm, if_neg hm]
  have hr : T'.drop (j + 4) = T.drop (j + 4) := by
    apply List.ext_getElem?
    intro m
    rw [List.getElem?_drop, List.getElem?_drop]
    exact hsame _ (by omega) (by omega)
  have e1 : T = T.take j ++ (T.drop j).take 4 ++ T.drop (j + 4) := by
    rw [List.append_assoc, ← List.drop_drop, List.take_append_drop, List.take_append_drop]
  have e2 : T' = T.take j ++ (T'.drop j).take 4 ++ T.drop (j + 4) := by
    rw [← hp, ← hr, List.append_assoc, ← List.drop_drop, List.take_append_drop, List.take_append_drop]
  rw [e1, e2] at hf
  have hx := Go.CR.feed_burst (by decide) (T.take j) (T.drop (j + 4)) (x := (T.drop j).take 4) (y := (T'.drop j).take 4) (by rw [List.length_take, List.length_drop]; omega) (by rw [List.length_take, List.length_drop]; omega) hf
  rw [e1, e2, hx]
/-- A right chunk of which two neighbouring bytes are changed has a wrong checksum. -/
theorem sound_change {T : List UInt8} (h5 : 5 ≤ T.length) (hs : soundN (str T) = 0) {i : Nat} (hi : i + 1 < T.length) {x y x' y' : UInt8} (hx : T[i]? = some x) (hy : T[i + 1]? = some y) (hne : ¬ (x' = x ∧ y' = y)) :
    soundN (str (T.take i ++ [x', y'] ++ T.drop (i + 2))) = 9 := by
  have hl : (T.take i ++ [x', y'] ++ T.drop (i + 2)).length = T.length := by
    rw [List.length_append, List.length_append, List.length_take, List.length_drop]; simp; omega
  have hg : ∀ m, (T.take i ++ [x', y'] ++ T.drop (i + 2))[m]? = if m < i then T[m]? else if m = i then some x' else if m = i + 1 then some y' else T[m]? := fun m => by
    have ht : (T.take i).length = i := by rw [List.length_take]; omega
    rw [List.append_assoc]
    by_cases h1 : m < i
    · rw [if_pos h1, List.getElem?_append_left (by omega), List.getElem?_take, if_pos h1]
    · rw [if_neg h1, List.getElem?_append_right (by omega), ht]
      by_cases h2 : m = i
      · rw [if_pos h2, h2, Nat.sub_self]; rfl
      · rw [if_neg h2]
        by_cases h3 : m = i + 1
        · rw [if_pos h3, h3, show i + 1 - i = 1 from by omega]; rfl
        · rw [if_neg h3, List.getElem?_append_right (by simp; omega), List.getElem?_drop]
          congr 1
          simp; omega
  rcases sound_or (s := str (T.take i ++ [x', y'] ++ T.drop (i + 2))) (by rw [str_size, hl]; exact h5) with h | h
  · exfalso
    have f1 := (sound_feed h5).1 hs
    have f2 := (sound_feed (by rw [hl]; exact h5)).1 h
    have e := burst2 hl (by omega) hi (fun m h1 h2 => by
      rw [hg]
      by_cases hm : m < i
      · rw [if_pos hm]
      · rw [if_neg hm, if_neg h1, if_neg h2]) (f1.trans f2.symm)
    have g1 := hg i
    rw [← e, if_neg (by omega), if_pos rfl, hx] at g1
    have g2 := hg (i + 1)
    rw [← e, if_neg (by omega), if_neg (by omega), if_pos rfl, hy] at g2
    exact hne ⟨(Option.some.inj g1).symm, (Option.some.inj g2).symm⟩
  · exact h
end Go.CK
