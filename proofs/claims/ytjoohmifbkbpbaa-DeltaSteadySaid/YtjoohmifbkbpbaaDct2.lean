/- Sorted dictionaries: what was encoded is read again; what is read is the encoding of what was found. -/
import Derived.Test.YtjoohmifbkbpbaaDct
namespace Go.DI
open Go.RowKit Go.VB Go.VarM Go.BP Go.RL

theorem list_inj {s t : ByteArray} (h : s.data.toList = t.data.toList) : s = t := by
  rw [← str_of s, ← str_of t, h]
theorem wrd_size {s : ByteArray} {pre w : List UInt8} {rest : List UInt8} (h : s.data.toList = pre ++ w ++ rest) : pre.length + w.length ≤ s.size := by
  rw [← size_list, h, List.length_append, List.length_append]; omega
theorem cut_mid {s : ByteArray} {pre w rest : List UInt8} (h : s.data.toList = pre ++ w ++ rest) : s.extract pre.length (pre.length + w.length) = str w := by
  apply list_inj
  rw [extract_list, h, List.append_assoc, List.drop_left, Nat.add_sub_cancel_left, List.take_left]; rfl
/-- One word, where it was written. -/
theorem getW_wrd {s : ByteArray} {pre rest : List UInt8} {w : ByteArray} (hw : w.size < 18446744073709551616) (h : s.data.toList = pre ++ wrd w ++ rest) :
    getW s ((pre.length : Nat) : Int) = (w, (((pre ++ wrd w).length : Nat) : Int), 0) := by
  have h1 : s.data.toList = pre ++ putL w.size ++ (w.data.toList ++ rest) := by rw [h, wrd]; simp only [List.append_assoc]
  have h2 : s.data.toList = (pre ++ putL w.size) ++ w.data.toList ++ rest := by rw [h, wrd]; simp only [List.append_assoc]
  have g := getR_put hw h1
  have hs := wrd_size h2
  rw [size_list] at hs
  have c := cut_mid h2
  rw [size_list] at c
  rw [getW_ok g hs, c, str_of]
  congr 2
  rw [wrd, List.length_append, List.length_append, List.length_append, size_list]
  push_cast; omega
theorem dws_enc (s : ByteArray) : ∀ (rest ws : List ByteArray) (pre tail : List UInt8), s.data.toList = pre ++ wrds rest ++ tail → (∀ w ∈ rest, w.size < 18446744073709551616) → Asc (ws ++ rest) →
    dws s rest.length ((pre.length : Nat) : Int) ws = (ws ++ rest, (((pre ++ wrds rest).length : Nat) : Int), 0) := by
  intro rest
  induction rest with
  | nil => intro ws pre tail _ _ _; rw [wrds_nil, List.append_nil, List.append_nil]; rfl
  | cons w rest ih =>
    intro ws pre tail h hw ha
    rw [wrds_cons] at h
    have h1 : s.data.toList = pre ++ wrd w ++ (wrds rest ++ tail) := by rw [h]; simp only [List.append_assoc]
    have h2 : s.data.toList = (pre ++ wrd w) ++ wrds rest ++ tail := by rw [h]; simp only [List.append_assoc]
    have e : ws ++ w :: rest = (ws ++ [w]) ++ rest := by rw [List.append_assoc]; rfl
    rw [List.length_cons, dws_go (getW_wrd (hw w (List.mem_cons_self ..)) h1), ih (ws ++ [w]) (pre ++ wrd w) tail h2 (fun x hx => hw x (List.mem_cons_of_mem _ hx)) (by rw [← e]; exact ha), ← e, wrds_cons, List.append_assoc]
    intro y hy
    have hmem : y ∈ ws := List.mem_of_getLast? hy
    exact (List.pairwise_append.1 ha).2.2 y hmem w (List.mem_cons_self ..)
theorem idx_back_all (l : List ByteArray) : (idx l).map (fun i => (srt l).getD i ⟨#[]⟩) = l := by
  apply List.ext_getElem?
  intro j
  rw [List.getElem?_map]
  cases hl : l[j]? with
  | none =>
    have : l.length ≤ j := List.getElem?_eq_none_iff.1 hl
    rw [List.getElem?_eq_none (by rw [idx_len]; exact this)]; rfl
  | some s =>
    rw [idx_at hl, Option.map_some, List.getD_eq_getElem?_getD, idx_back hl]; rfl
theorem idx_all {l : List ByteArray} {j : Nat} (hj : j < (srt l).length) : j ∈ idx l := by
  have hx : (srt l)[j]? = some (srt l)[j] := List.getElem?_eq_getElem hj
  have hm : (srt l)[j] ∈ l := srt_mem.1 (List.getElem_mem hj)
  simp only [idx, List.mem_map]
  exact ⟨_, hm, plc_at (srt_asc l) hx⟩
theorem lk_srt (l : List ByteArray) : lkR (srt l) (idx l) = (l, 0) := by
  rw [lkR_ok (idx_lt l) (fun j hj => idx_all hj), idx_back_all]
theorem srt_nil_iff {l : List ByteArray} : (srt l).length = 0 ↔ l.length = 0 := by
  constructor
  · intro h
    rcases Nat.eq_zero_or_pos l.length with h1 | h1
    · exact h1
    · have := srt_pos (l := l) (by intro e; subst e; simp at h1); omega
  · intro h
    have := srt_len l; omega
/-- What was encoded is read again. -/
theorem decD_enc {l : List ByteArray} (h : l.length ≤ 4096) (hw : ∀ w ∈ l, w.size < 18446744073709551616) : decD (str (encD l)) (l.length : Nat) = (l, 0) := by
  have hlen := srt_len l
  have hz := srt_nil_iff (l := l)
  rw [encD_in h]
  have hs : (str (encW (srt l) (idx l))).data.toList = putL (srt l).length ++ wrds (srt l) ++ packed (idx l) (wdt (srt l).length) := rfl
  have g : getR (str (encW (srt l) (idx l))) (([] : List UInt8).length : Nat) = ((srt l).length, ((([] ++ putL (srt l).length : List UInt8).length : Nat) : Int), 0) :=
    getR_put (s := str (encW (srt l) (idx l))) (a := []) (r := wrds (srt l) ++ packed (idx l) (wdt (srt l).length)) (by omega) (by rw [hs]; simp only [List.nil_append, List.append_assoc])
  have d := dws_enc (str (encW (srt l) (idx l))) (srt l) [] (putL (srt l).length) _ hs (fun w hm => hw w (srt_mem.1 hm)) (by rw [List.nil_append]; exact srt_asc l)
  rw [List.nil_append] at d
  have hx : (str (encW (srt l) (idx l))).extract (putL (srt l).length ++ wrds (srt l)).length (str (encW (srt l) (idx l))).size = str (packed (idx l) (wdt (srt l).length)) := by
    rw [extract_end, hs, List.drop_left]
  have hwd := wdt_le (k := (srt l).length) (by omega)
  have u := round_trip (l := idx l) (w := wdt (srt l).length) (by omega) (by rw [idx_len]; exact h) (fun i hi => wdt_lt (idx_lt l i hi))
  rw [idx_len] at u
  rw [decD_l h g ⟨hlen, by omega⟩ d (by rw [hx]; exact u), lk_srt]

/-- What one word's reading says. -/
theorem getW_zero {s : ByteArray} {p : Nat} {x : ByteArray} {q : Int} (h : getW s (p : Nat) = (x, q, 0)) : ∃ k : Nat, q = k ∧ p ≤ k ∧ k ≤ s.size ∧ wrd x = (s.data.toList.drop p).take (k - p) ∧ x.size < 18446744073709551616 := by
  obtain ⟨a, b, c, hg⟩ : ∃ a b c, getR s (p : Nat) = (a, b, c) := ⟨_, _, _, rfl⟩
  by_cases hc : c = 0
  · subst hc
    obtain ⟨k1, m, e1, e2, h1, h2, h3, h4⟩ := getR_zero hg
    have e1' : k1 = p := by omega
    subst e1'
    obtain ⟨b', rfl⟩ : ∃ b' : Nat, b = b' := ⟨k1 + m, by omega⟩
    by_cases hb : b' + a ≤ s.size
    · rw [getW_ok hg hb] at h
      cases h
      have hsz : (s.extract b' (b' + a)).size = a := by rw [← size_list, extract_list, List.length_take, List.length_drop, size_list]; omega
      refine ⟨b' + a, rfl, by omega, hb, ?_, by omega⟩
      rw [wrd, hsz, extract_list, h3, show b' + a - k1 = m + a from by omega, show b' + a - b' = a from by omega, List.take_add, List.drop_drop, show k1 + m = b' from by omega]
    · rw [getW_short hg (by omega)] at h; cases h
  · rw [getW_e hg hc] at h; cases h; exact absurd rfl hc
theorem dws_zero (s : ByteArray) : ∀ (k : Nat) (p : Nat) (ws r : List ByteArray) (q : Int), p ≤ s.size → dws s k (p : Nat) ws = (r, q, 0) → Asc ws →
    ∃ (rest : List ByteArray) (m : Nat), r = ws ++ rest ∧ rest.length = k ∧ q = m ∧ p ≤ m ∧ m ≤ s.size ∧ wrds rest = (s.data.toList.drop p).take (m - p) ∧ Asc r ∧ (∀ w ∈ rest, w.size < 18446744073709551616) := by
  intro k
  induction k with
  | zero =>
    intro p ws r q hp h ha
    cases h
    exact ⟨[], p, by simp, rfl, rfl, Nat.le_refl _, hp, by simp [wrds_nil], ha, by simp⟩
  | succ k ih =>
    intro p ws r q hp h ha
    obtain ⟨x, q1, c, hg⟩ : ∃ x q c, getW s (p : Nat) = (x, q, c) := ⟨_, _, _, rfl⟩
    by_cases hc : c = 0
    · subst hc
      by_cases hl : ∃ y, ws.getLast? = some y ∧ lts y x = false
      · obtain ⟨y, hy, h1⟩ := hl
        rw [dws_f hg hy h1] at h; cases h
      · have hl' : ∀ y, ws.getLast? = some y → lts y x = true := fun y hy => by
          cases hb : lts y x with
          | true => rfl
          | false => exact absurd ⟨y, hy, hb⟩ hl
        rw [dws_go hg hl'] at h
        obtain ⟨k1, rfl, h1, h2, h3, h4⟩ := getW_zero hg
        have ha' : Asc (ws ++ [x]) := by
          refine asc_app ha (Asc.one x) fun z hz w hw => ?_
          rw [List.mem_singleton.1 hw]
          rcases List.eq_nil_or_concat ws with h0 | ⟨ws', y, h0⟩
          · subst h0; simp at hz
          · rw [List.concat_eq_append] at h0
            subst h0
            have hy := hl' y (by simp)
            rcases List.mem_append.1 hz with hz | hz
            · exact lts_trans ((List.pairwise_append.1 ha).2.2 z hz y (List.mem_cons_self ..)) hy
            · rw [List.mem_singleton.1 hz]; exact hy
        obtain ⟨rest, m, e1, e2, e3, e4, e5, e6, e7, e8⟩ := ih k1 (ws ++ [x]) r q h2 h ha'
        refine ⟨x :: rest, m, by rw [e1, List.append_assoc]; rfl, by rw [List.length_cons, e2], e3, by omega, e5, ?_, e7, ?_⟩
        · rw [wrds_cons, h3, e6, show m - p = (k1 - p) + (m - k1) from by omega, List.take_add, List.drop_drop, show p + (k1 - p) = k1 from by omega]
        · intro w hw
          rcases List.mem_cons.1 hw with hw | hw
          · rw [hw]; exact h4
          · exact e8 w hw
    · rw [dws_e hg hc] at h; cases h; exact absurd rfl hc
theorem lkR_zero {ws : List ByteArray} {u : List Nat} {r : List ByteArray} (h : lkR ws u = (r, 0)) : (∀ i ∈ u, i < ws.length) ∧ (∀ j, j < ws.length → j ∈ u) ∧ r = u.map fun i => ws.getD i ⟨#[]⟩ := by
  unfold lkR at h
  split at h
  · rename_i hh
    cases h
    exact ⟨hh.1, hh.2, rfl⟩
  · cases h
theorem lk_back {ws : List ByteArray} {u : List Nat} (ha : Asc ws) (h1 : ∀ i ∈ u, i < ws.length) (h2 : ∀ j, j < ws.length → j ∈ u) : srt (u.map fun i => ws.getD i ⟨#[]⟩) = ws ∧ idx (u.map fun i => ws.getD i ⟨#[]⟩) = u := by
  have hs : ws = srt (u.map fun i => ws.getD i ⟨#[]⟩) := by
    refine srt_is ha fun x => ?_
    simp only [List.mem_map]
    constructor
    · intro hx
      obtain ⟨j, hj, e⟩ := List.mem_iff_getElem.1 hx
      exact ⟨j, h2 j hj, by rw [List.getD_eq_getElem?_getD, List.getElem?_eq_getElem hj]; exact e⟩
    · rintro ⟨i, hi, rfl⟩
      rw [List.getD_eq_getElem?_getD, List.getElem?_eq_getElem (h1 i hi)]
      exact List.getElem_mem _
  refine ⟨hs.symm, ?_⟩
  unfold idx
  rw [← hs, List.map_map]
  refine (List.map_congr_left fun i hi => ?_).trans (List.map_id u)
  have hx : ws[i]? = some (ws.getD i ⟨#[]⟩) := by rw [List.getD_eq_getElem?_getD, List.getElem?_eq_getElem (h1 i hi)]; rfl
  exact plc_at ha hx
theorem unpack_zero {s : ByteArray} {n w : Nat} (hn : n ≤ 4096) (hw : w ≤ 64) {u : List Nat} (h : unpackR s (n : Nat) (w : Nat) = (u, 0)) : u.length = n ∧ (∀ x ∈ u, x < 2 ^ w) ∧ packed u w = s.data.toList := by
  by_cases h1 : s.size < (n * w + 7) / 8
  · rw [unpackR_short hn hw h1] at h; cases h
  by_cases h2 : (n * w + 7) / 8 < s.size
  · rw [unpackR_long hn hw h2] at h; cases h
  have h3 : s.size = (n * w + 7) / 8 := by omega
  by_cases h4 : num s < 2 ^ (n * w)
  · rw [unpackR_ok hn hw h3 h4] at h
    cases h
    refine ⟨digs_len _ _ _, digs_lt _ _ _, ?_⟩
    unfold packed
    rw [digs_len, big_digs, Nat.mul_comm w n, Nat.mod_eq_of_lt h4]
    have := str_of_num h3 rfl
    exact (congrArg (fun t => t.data.toList) this).symm
  · rw [unpackR_rest hn hw h3 h4] at h; cases h
/-- What is read is the encoding of what was found. -/
theorem decD_only {s : ByteArray} {n : Nat} (hn : n ≤ 4096) {r : List ByteArray} (h : decD s (n : Nat) = (r, 0)) : encD r = s.data.toList ∧ r.length = n ∧ (∀ w ∈ r, w.size < 18446744073709551616) := by
  obtain ⟨a, b, c, hg⟩ : ∃ a b c, getR s 0 = (a, b, c) := ⟨_, _, _, rfl⟩
  by_cases hc : c = 0
  · subst hc
    by_cases hk : n < a ∨ (a = 0 ∧ 0 < n)
    · rw [decD_k hn hg hk] at h; cases h
    have hk' : a ≤ n ∧ (a = 0 → n = 0) := by omega
    obtain ⟨k1, m1, e1, e2, h1, h2, h3, h4⟩ := getR_zero hg
    have e1' : k1 = 0 := by omega
    subst e1'
    obtain ⟨b', rfl⟩ : ∃ b' : Nat, b = b' := ⟨m1, by omega⟩
    obtain ⟨ws, q, c, hw⟩ : ∃ ws q c, dws s a (b' : Nat) [] = (ws, q, c) := ⟨_, _, _, rfl⟩
    by_cases hc : c = 0
    · subst hc
      obtain ⟨rest, m, f1, f2, f3, f4, f5, f6, f7, f8⟩ := dws_zero s a b' [] ws q (by omega) hw Asc.nil
      rw [List.nil_append] at f1
      subst f1
      subst f3
      obtain ⟨u, c, hu⟩ : ∃ u c, unpackR (s.extract m s.size) n (wdt a : Nat) = (u, c) := ⟨_, _, rfl⟩
      by_cases hc : c = 0
      · subst hc
        rw [decD_l hn hg hk' hw hu] at h
        obtain ⟨l1, l2, rfl⟩ := lkR_zero h
        have hwd := wdt_le (k := a) (by omega)
        obtain ⟨u1, u2, u3⟩ := unpack_zero hn (by omega) hu
        obtain ⟨b1, b2⟩ := lk_back f7 l1 l2
        refine ⟨?_, by rw [List.length_map, u1], ?_⟩
        · rw [encD_in (by rw [List.length_map, u1]; exact hn), b1, b2]
          unfold encW
          rw [f2, h3, f6, u3, extract_list]
          have hb : b' = m1 := by omega
          subst hb
          rw [List.drop_zero, List.take_of_length_le (i := s.size - m) (by rw [List.length_drop, size_list]; omega)]
          have e5 : (s.data.toList.take b' ++ (s.data.toList.drop b').take (m - b')) = s.data.toList.take m := by
            rw [← List.take_add, show b' + (m - b') = m from by omega]
          rw [e5, List.take_append_drop]
        · intro w hw'
          simp only [List.mem_map] at hw'
          obtain ⟨i, hi, rfl⟩ := hw'
          rw [List.getD_eq_getElem?_getD, List.getElem?_eq_getElem (l1 i hi)]
          exact f8 _ (List.getElem_mem _)
      · rw [decD_u hn hg hk' hw hu hc] at h; cases h; exact absurd rfl hc
    · rw [decD_w hn hg hk' hw hc] at h; cases h; exact absurd rfl hc
  · rw [decD_e hn hg hc] at h; cases h; exact absurd rfl hc
end Go.DI
