/- Chunks: lengths of what is read; the values in their places, one by one; what the program reads of the bytes of a chunk. -/
import Derived.Test.YtbolbbngncnecaaGreatChk5
namespace Go.CK
open Go.RowKit Go.VB Go.VarM Go.BP Go.RL Go.VS Go.VL Go.NU Go.Proofs.YtbolbbngncnecaaGreat
theorem plainD_len {typ : Int} {s : ByteArray} : ∀ (m : Nat) (p : Int) (acc l : List Vl), plainD typ s m p acc = some l → l.length = acc.length + m
  | 0, p, acc, l, h => by
    unfold plainD at h
    by_cases hp : p = s.size
    · rw [if_pos hp] at h; cases h; rfl
    · rw [if_neg hp] at h; cases h
  | m + 1, p, acc, l, h => by
    rw [plainD] at h
    by_cases h1 : (getR s p).2.2 ≠ 0
    · rw [if_pos h1] at h; cases h
    · rw [if_neg h1] at h
      by_cases h2 : typ ≠ 3
      · rw [if_pos h2] at h
        have := plainD_len m _ _ _ h
        rw [List.length_append, List.length_cons, List.length_nil] at this; omega
      · rw [if_neg h2] at h
        by_cases h3 : (s.size : Int) - (getR s p).2.1 < (getR s p).1
        · rw [if_pos h3] at h; cases h
        · rw [if_neg h3] at h
          have := plainD_len m _ _ _ h
          rw [List.length_append, List.length_cons, List.length_nil] at this; omega
theorem getB_len {s : ByteArray} {p : Int} {c : Nat} {d : List Int} {q : Nat} (h : Go.DL.getB s p c = (d, q, 0)) : d.length = c := by
  unfold Go.DL.getB at h
  by_cases h1 : (getR s p).2.2 ≠ 0
  · rw [if_pos h1] at h; simp only [Prod.mk.injEq] at h; exact absurd h.2.2 h1
  · rw [if_neg h1] at h
    repeat' split at h
    all_goals first
      | (cases h; done)
      | (simp only [Prod.mk.injEq] at h; obtain ⟨rfl, _⟩ := h; rw [List.length_map, digs_len])
      | (exact absurd h (by simp))
theorem decB_len {s : ByteArray} : ∀ (k m : Nat) (p : Int) (l r : List Int), m ≤ k → Go.DL.decB s m p l = (r, 0) → r.length = l.length + m
  | k, 0, p, l, r, _, h => by
    by_cases hp : p < s.size
    · rw [Go.DL.decB_left rfl hp] at h; cases h
    · rw [Go.DL.decB_done rfl hp] at h; cases h; rfl
  | 0, m + 1, p, l, r, hm, h => by omega
  | k + 1, m + 1, p, l, r, hm, h => by
    obtain ⟨d, q, e, hg⟩ : ∃ d q e, Go.DL.getB s p (min (m + 1) 32) = (d, q, e) := ⟨_, _, _, rfl⟩
    by_cases he : e = 0
    · subst he
      rw [Go.DL.decB_go (by omega) rfl hg] at h
      have h1 := decB_len k _ _ _ _ (by omega) h
      rw [Go.DL.acc_len, getB_len hg] at h1
      omega
    · rw [Go.DL.decB_e (by omega) rfl hg he] at h
      simp only [Prod.mk.injEq] at h; exact absurd h.2 he
theorem decX_len {s : ByteArray} {n : Nat} {r : List Int} (hn : n ≤ 4096) (h : Go.DL.decX s n = (r, 0)) : r.length = n := by
  by_cases h0 : n = 0
  · subst h0
    by_cases hs : s.size = 0
    · have := Go.DL.decX_nil hs
      rw [show ((0 : Nat) : Int) = 0 from rfl, this] at h; cases h; rfl
    · have := Go.DL.decX_some hs
      rw [show ((0 : Nat) : Int) = 0 from rfl, this] at h; cases h
  · obtain ⟨a, b, e, hg⟩ : ∃ a b e, getR s 0 = (a, b, e) := ⟨_, _, _, rfl⟩
    by_cases he : e = 0
    · subst he
      rw [Go.DL.decX_go hn h0 hg] at h
      have := decB_len _ _ _ _ _ (Nat.le_refl _) h
      rw [this]; simp; omega
    · rw [Go.DL.decX_e hn h0 hg he] at h
      simp only [Prod.mk.injEq] at h; exact absurd h.2 he
/-- As many values are read as are asked for. -/
theorem payD_len {typ codec : Int} {s : ByteArray} {n : Nat} {l : List Vl} (hn : n ≤ 4096) (h : payD typ codec s n = some l) : l.length = n := by
  unfold payD at h
  by_cases h1 : codec = 1
  · rw [if_pos h1] at h
    have := plainD_len _ _ _ _ h
    simpa using this
  · rw [if_neg h1] at h
    by_cases h3 : codec = 3
    · rw [if_pos h3] at h
      by_cases hc : (Go.DI.decD s n).2 = 0
      · rw [if_pos hc] at h; cases h
        rw [List.length_map]
        exact (Go.DI.decD_only hn (r := (Go.DI.decD s n).1) (Prod.ext rfl hc)).2.1
      · rw [if_neg hc] at h; cases h
    · rw [if_neg h3] at h
      by_cases h4 : codec = 4
      · rw [if_pos h4] at h
        by_cases hc : (Go.DL.decX s n).2 = 0
        · rw [if_pos hc] at h; cases h
          rw [List.length_map]
          exact decX_len hn (r := (Go.DL.decX s n).1) (Prod.ext rfl hc)
        · rw [if_neg hc] at h; cases h
      · rw [if_neg h4] at h
        by_cases hc : (decR s n).2 = 0
        · rw [if_pos hc] at h; cases h
          rw [List.length_map]
          exact (decR_only hn (r := (decR s n).1) (Prod.ext rfl hc)).2.1
        · rw [if_neg hc] at h; cases h
/-- A null value. -/
def nulV : Vl := ⟨true, 0, ⟨#[]⟩⟩
theorem weave_nil (l : List Vl) : weave [] l = [] := rfl
theorem weave_len : ∀ (b : List Bool) (l : List Vl), (weave b l).length = b.length
  | [], _ => rfl
  | true :: b, l => by rw [weave, List.length_cons, weave_len b l, List.length_cons]
  | false :: b, [] => by rw [weave, List.length_cons, weave_len b [], List.length_cons]
  | false :: b, x :: l => by rw [weave, List.length_cons, weave_len b l, List.length_cons]
/-- The values, with one place more. -/
theorem weave_app (x : Bool) : ∀ (a : List Bool) (l : List Vl), weave (a ++ [x]) l = weave a l ++ [if x then nulV else l.getD (a.count false) vl0]
  | [], l => by
    cases x
    · cases l <;> rfl
    · rfl
  | true :: a, l => by
    rw [List.cons_append, weave, weave, weave_app x a l, List.count_cons_of_ne (by decide)]; rfl
  | false :: a, [] => by
    rw [List.cons_append, weave, weave, weave_app x a [], List.count_cons_self]
    cases x <;> simp
  | false :: a, y :: l => by
    rw [List.cons_append, weave, weave, weave_app x a l, List.count_cons_self]
    cases x <;> simp
theorem weave_snoc {b : List Bool} {l : List Vl} {j : Nat} {x : Bool} (h : b[j]? = some x) : weave (b.take (j + 1)) l = weave (b.take j) l ++ [if x then nulV else l.getD ((b.take j).count false) vl0] := by
  rw [List.take_add_one, h, Option.toList_some, weave_app]
theorem count_snoc {b : List Bool} {j : Nat} {x : Bool} (h : b[j]? = some x) : (b.take (j + 1)).count false = (b.take j).count false + if x then 0 else 1 := by
  rw [List.take_add_one, h, Option.toList_some, List.count_append]
  cases x <;> rfl
theorem count_lt {b : List Bool} {j : Nat} (h : b[j]? = some false) : (b.take j).count false < b.count false := by
  have h1 := count_snoc h
  have h2 : (b.take (j + 1)).count false ≤ b.count false := (List.take_sublist (j + 1) b).count_le false
  simp at h1
  omega
theorem count_two : ∀ b : List Bool, b.count false + b.count true = b.length
  | [] => rfl
  | true :: b => by rw [List.count_cons_of_ne (by decide), List.count_cons_self, List.length_cons]; have := count_two b; omega
  | false :: b => by rw [List.count_cons_self, List.count_cons_of_ne (by decide), List.length_cons]; have := count_two b; omega
/-- What Unpack accepts has as many null values as its bytes have ones. -/
theorem upk_ones {s : ByteArray} {n : Nat} (hn : n ≤ 4096) (h : (upk s n).2 = 0) : (upk s n).1.length = n ∧ ones (num s) (8 * s.size) = (upk s n).1.count true := by
  by_cases h1 : s.size < (n + 7) / 8
  · rw [upk_short hn h1] at h; cases h
  · by_cases h2 : (n + 7) / 8 < s.size
    · rw [upk_long hn h2] at h; cases h
    · have hs : s.size = (n + 7) / 8 := by omega
      by_cases hr : num s < 2 ^ n
      · rw [upk_ok hn hs hr]
        refine ⟨bools_len _ _, ?_⟩
        show _ = (bools n (num s)).count true
        have e : ∀ k, ones (num s) k = (bools k (num s)).count true := by
          intro k
          induction k with
          | zero => rfl
          | succ k ih =>
            rw [ones_succ, bools_succ, List.count_append, ← ih]
            unfold bitN
            rcases Nat.mod_two_eq_zero_or_one (num s / 2 ^ k) with hh | hh <;> simp [hh]
        obtain ⟨d, hd⟩ : ∃ d, 8 * s.size = n + d := ⟨8 * s.size - n, by omega⟩
        rw [hd, ones_add, ← e, Nat.div_eq_of_lt hr, ones_none, Nat.add_zero]
      · rw [upk_rest hn hs hr] at h; cases h
/-- What the program reads behind the codec: the marks, and where the payload begins. -/
def nulD (s : ByteArray) (p : Int) : Option (List Bool × Nat) :=
  if (getR s p).2.2 ≠ 0 ∨ 4096 < (getR s p).1 then none
  else if (getR s (getR s p).2.1).2.2 ≠ 0 then none
  else if (getR s (getR s p).2.1).1 = 0 then some (List.replicate (getR s p).1 false, (getR s (getR s p).2.1).2.1.toNat)
  else if s.size < (getR s (getR s p).2.1).2.1.toNat + ((getR s p).1 + 7) / 8 then none
  else if (upk (s.extract (getR s (getR s p).2.1).2.1.toNat ((getR s (getR s p).2.1).2.1.toNat + ((getR s p).1 + 7) / 8)) (getR s p).1).2 ≠ 0 ∨
      ones (num (s.extract (getR s (getR s p).2.1).2.1.toNat ((getR s (getR s p).2.1).2.1.toNat + ((getR s p).1 + 7) / 8))) (8 * (((getR s p).1 + 7) / 8)) ≠ (getR s (getR s p).2.1).1 then none
  else some ((upk (s.extract (getR s (getR s p).2.1).2.1.toNat ((getR s (getR s p).2.1).2.1.toNat + ((getR s p).1 + 7) / 8)) (getR s p).1).1, (getR s (getR s p).2.1).2.1.toNat + ((getR s p).1 + 7) / 8)
/-- What the program reads of a chunk without its checksum: the values, valid or not. -/
def valD (typ : Int) (s : ByteArray) : Option (List Vl) :=
  if uses typ (bN s 0 : Nat) = false then none else
  (nulD s 1).bind fun x => (payD typ (bN s 0 : Nat) (s.extract x.2 s.size) (x.1.count false)).map fun l => weave x.1 l
theorem sz_extract {s : ByteArray} {p k : Nat} (h : p + k ≤ s.size) : (s.extract p (p + k)).size = k := by rw [ByteArray.size_extract]; omega
/-- The two ways to read are one. -/
theorem body_val (typ : Int) (nu : Bool) (s : ByteArray) : bodyD typ nu s = (valD typ s).bind fun l => if ∀ x ∈ l, chkV typ nu x = 0 then some l else none := by
  obtain ⟨n, q, e, h1⟩ : ∃ n q e, getR s 1 = (n, q, e) := ⟨_, _, _, rfl⟩
  obtain ⟨k, p, f, h2⟩ : ∃ k p f, getR s q = (k, p, f) := ⟨_, _, _, rfl⟩
  unfold bodyD valD nulD
  by_cases hu : uses typ (bN s 0 : Nat) = false
  · rw [if_pos (.inr (.inr hu)), if_pos hu]; rfl
  · rw [if_neg hu]
    rw [h1]; simp only
    by_cases ha : e ≠ 0 ∨ 4096 < n
    · rw [if_pos (ha.elim .inl fun h => .inr (.inl h)), if_pos ha]; rfl
    · rw [if_neg ha, if_neg (by rintro (h | h | h); exact ha (.inl h); exact ha (.inr h); exact hu h)]
      have hn : n ≤ 4096 := by omega
      rw [h2]; simp only
      by_cases hf : f ≠ 0
      · rw [if_pos (.inl hf), if_pos hf]; rfl
      · rw [if_neg hf]
        by_cases hk : k = 0
        · rw [if_neg (by rintro (h | h); exact hf h; omega), if_pos hk]
          unfold tailD
          rw [if_pos hk]
          show _ = (Option.map _ _).bind _
          simp only [List.count_replicate_self, Option.bind_map]
          rfl
        · rw [if_neg hk]
          by_cases hs : s.size < p.toNat + (n + 7) / 8
          · rw [if_pos hs]
            by_cases hkn : n < k
            · rw [if_pos (.inr hkn)]; rfl
            · rw [if_neg (by rintro (h | h); exact hf h; exact hkn h)]
              unfold tailD
              rw [if_neg hk, if_pos hs]; rfl
          · rw [if_neg hs]
            have hz := sz_extract (s := s) (p := p.toNat) (k := (n + 7) / 8) (by omega)
            generalize hB : s.extract p.toNat (p.toNat + (n + 7) / 8) = B at *
            by_cases hc : (upk B n).2 ≠ 0 ∨ ones (num B) (8 * ((n + 7) / 8)) ≠ k
            · rw [if_pos hc]
              by_cases hkn : n < k
              · rw [if_pos (.inr hkn)]; rfl
              · rw [if_neg (by rintro (h | h); exact hf h; exact hkn h)]
                unfold tailD
                rw [if_neg hk, if_neg hs, hB, if_pos hc]; rfl
            · rw [if_neg hc]
              have hc1 : (upk B n).2 = 0 := by omega
              have hc2 : ones (num B) (8 * ((n + 7) / 8)) = k := by omega
              obtain ⟨hl, ho⟩ := upk_ones hn hc1
              rw [hz, hc2] at ho
              have h2 := count_two (upk B n).1
              rw [if_neg (by rintro (h | h); exact hf h; omega)]
              unfold tailD
              rw [if_neg hk, if_neg hs, hB, if_neg hc, show n - k = (upk B n).1.count false by omega]
              show _ = (Option.map _ _).bind _
              simp only [Option.bind_map]
              rfl
/-! which payload is the shortest -/
/-- The codec of the shortest payload. -/
def bestK (typ : Int) (l : List Vl) : Nat :=
  if typ = 3 then (if (payB typ 3 l).length < (payB typ 1 l).length then 3 else 1)
  else if (payB typ 2 l).length < (payB typ 1 l).length then (if (payB typ 4 l).length < (payB typ 2 l).length then 4 else 2)
  else (if (payB typ 4 l).length < (payB typ 1 l).length then 4 else 1)
theorem build_lt (typ a b : Int) (l : List Vl) : (buildB typ a l).length < (buildB typ b l).length ↔ (payB typ a (some' l)).length < (payB typ b (some' l)).length := by
  unfold buildB bodyB four
  simp only [List.length_append, List.length_cons, List.length_nil]
  omega
/-- The chunk with the shortest payload is the shortest chunk. -/
theorem best_is (typ : Int) (l : List Vl) : buildB typ (bestK typ (some' l)) l = bestB typ l := by
  unfold bestB bestK
  simp only [build_lt]
  by_cases ht : typ = 3
  · rw [if_pos ht, if_pos ht]
    by_cases h : (payB typ 3 (some' l)).length < (payB typ 1 (some' l)).length
    · rw [if_pos h, if_pos h]; rfl
    · rw [if_neg h, if_neg h]; rfl
  · rw [if_neg ht, if_neg ht]
    by_cases h : (payB typ 2 (some' l)).length < (payB typ 1 (some' l)).length
    · rw [if_pos h, if_pos h]
      by_cases h4 : (payB typ 4 (some' l)).length < (payB typ 2 (some' l)).length
      · rw [if_pos h4, if_pos h4]; rfl
      · rw [if_neg h4, if_neg h4]; rfl
    · rw [if_neg h, if_neg h]
      by_cases h4 : (payB typ 4 (some' l)).length < (payB typ 1 (some' l)).length
      · rw [if_pos h4, if_pos h4]; rfl
      · rw [if_neg h4, if_neg h4]; rfl
end Go.CK
