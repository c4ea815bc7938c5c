/- Differences: the list of differences of neighbours, a block's least difference, offsets and width, the encoding of a list, and what Decode finds in a text. -/
import Derived.Test.YtjoohmifbkbpbaaRle
import Derived.Test.YtjoohmifbkbpbaaBits
namespace Go.DL
open Go.RowKit Go.VB Go.VarM Go.BP Go.RL Go.Proofs.Ytjoohmifbkbpbaa

theorem wrap_in {z : Int} (h : -9223372036854775808 ≤ z ∧ z ≤ 9223372036854775807) : wrap64 z = z := by unfold wrap64; omega
theorem wrap_bd (z : Int) : -9223372036854775808 ≤ wrap64 z ∧ wrap64 z ≤ 9223372036854775807 := by unfold wrap64; omega
theorem wrap_eq (z : Int) : IntKind.i64.wrap z = wrap64 z := by rw [IntKind.wrap_i64]; unfold wrap64; rfl

/-- The differences of neighbours, with sign, modulo 2^64. -/
def df : List Int → List Int
  | [] => []
  | [_] => []
  | x :: y :: r => wrap64 (y - x) :: df (y :: r)
theorem df_len : ∀ l : List Int, (df l).length = l.length - 1
  | [] => rfl
  | [_] => rfl
  | x :: y :: r => by rw [df, List.length_cons, df_len (y :: r)]; simp
theorem df_at : ∀ {l : List Int} {i : Nat} {x y : Int}, l[i]? = some x → l[i + 1]? = some y → (df l)[i]? = some (wrap64 (y - x))
  | [], i, x, y, h, _ => by simp at h
  | [a], i, x, y, _, h => by simp at h
  | a :: b :: r, 0, x, y, h1, h2 => by
    simp at h1 h2; subst h1; subst h2; rfl
  | a :: b :: r, i + 1, x, y, h1, h2 => by
    rw [df, List.getElem?_cons_succ]
    exact df_at (l := b :: r) (by simpa using h1) (by simpa using h2)
theorem df_i64 : ∀ l : List Int, I64 (df l)
  | [], z, hz => by simp [df] at hz
  | [_], z, hz => by simp [df] at hz
  | x :: y :: r, z, hz => by
    rw [df] at hz
    rcases List.mem_cons.1 hz with h | h
    · rw [h]; exact wrap_bd _
    · exact df_i64 (y :: r) z h

/-! least and greatest -/
theorem minl_le : ∀ (l : List Int) (v : Int), l.foldl min v ≤ v ∧ ∀ x ∈ l, l.foldl min v ≤ x
  | [], v => ⟨Int.le_refl _, fun _ h => by simp at h⟩
  | y :: l, v => by
    obtain ⟨h1, h2⟩ := minl_le l (min v y)
    rw [List.foldl_cons]
    refine ⟨by omega, fun x hx => ?_⟩
    rcases List.mem_cons.1 hx with h | h
    · subst h; omega
    · exact h2 x h
theorem minl_in : ∀ (l : List Int) (v : Int), l.foldl min v = v ∨ l.foldl min v ∈ l
  | [], v => .inl rfl
  | y :: l, v => by
    rw [List.foldl_cons]
    rcases minl_in l (min v y) with h | h
    · rcases Int.le_total v y with hv | hv
      · left; omega
      · right; rw [h, Int.min_eq_right hv]; exact List.mem_cons_self ..
    · right; exact List.mem_cons_of_mem _ h
/-- The least element. -/
def lst (d : List Int) : Int := d.foldl min (d.headD 0)
theorem lst_le {d : List Int} {x : Int} (h : x ∈ d) : lst d ≤ x := (minl_le d _).2 x h
theorem lst_in {d : List Int} (h : d ≠ []) : lst d ∈ d := by
  unfold lst
  rcases minl_in d (d.headD 0) with e | e
  · rw [e]
    cases d with
    | nil => exact absurd rfl h
    | cons x d => exact List.mem_cons_self ..
  · exact e
theorem minn_le : ∀ (l : List Nat) (v : Nat), l.foldl min v ≤ v ∧ ∀ x ∈ l, l.foldl min v ≤ x
  | [], v => ⟨Nat.le_refl _, fun _ h => by simp at h⟩
  | y :: l, v => by
    obtain ⟨h1, h2⟩ := minn_le l (min v y)
    rw [List.foldl_cons]
    refine ⟨by omega, fun x hx => ?_⟩
    rcases List.mem_cons.1 hx with h | h
    · subst h; omega
    · exact h2 x h
theorem minn_in : ∀ (l : List Nat) (v : Nat), l.foldl min v = v ∨ l.foldl min v ∈ l
  | [], v => .inl rfl
  | y :: l, v => by
    rw [List.foldl_cons]
    rcases minn_in l (min v y) with h | h
    · rcases Nat.le_total v y with hv | hv
      · left; omega
      · right; rw [h, Nat.min_eq_right hv]; exact List.mem_cons_self ..
    · right; exact List.mem_cons_of_mem _ h
theorem maxn_ge : ∀ (l : List Nat) (v : Nat), v ≤ l.foldl max v ∧ ∀ x ∈ l, x ≤ l.foldl max v
  | [], v => ⟨Nat.le_refl _, fun _ h => by simp at h⟩
  | y :: l, v => by
    obtain ⟨h1, h2⟩ := maxn_ge l (max v y)
    rw [List.foldl_cons]
    refine ⟨by omega, fun x hx => ?_⟩
    rcases List.mem_cons.1 hx with h | h
    · subst h; omega
    · exact h2 x h
theorem maxn_in : ∀ (l : List Nat) (v : Nat), l.foldl max v = v ∨ l.foldl max v ∈ l
  | [], v => .inl rfl
  | y :: l, v => by
    rw [List.foldl_cons]
    rcases maxn_in l (max v y) with h | h
    · rcases Nat.le_total y v with hv | hv
      · left; omega
      · right; rw [h, Nat.max_eq_right hv]; exact List.mem_cons_self ..
    · right; exact List.mem_cons_of_mem _ h
/-- The least and the greatest number. -/
def lo (u : List Nat) : Nat := u.foldl min (u.headD 0)
def gr (u : List Nat) : Nat := u.foldl max (u.headD 0)
theorem head_in {u : List Nat} (h : u ≠ []) : u.headD 0 ∈ u := by
  cases u with
  | nil => exact absurd rfl h
  | cons x d => exact List.mem_cons_self ..
theorem lo_le {u : List Nat} {x : Nat} (h : x ∈ u) : lo u ≤ x := (minn_le u _).2 x h
theorem lo_in {u : List Nat} (h : u ≠ []) : lo u ∈ u := by
  unfold lo
  rcases minn_in u (u.headD 0) with e | e
  · rw [e]; exact head_in h
  · exact e
theorem gr_ge {u : List Nat} {x : Nat} (h : x ∈ u) : x ≤ gr u := (maxn_ge u _).2 x h
theorem gr_in {u : List Nat} (h : u ≠ []) : gr u ∈ u := by
  unfold gr
  rcases maxn_in u (u.headD 0) with e | e
  · rw [e]; exact head_in h
  · exact e
theorem gr_zero {u : List Nat} (h : u ≠ []) : u.foldl max 0 = gr u := by
  have h1 := (maxn_ge u 0).2 _ (gr_in h)
  rcases maxn_in u 0 with e | e
  · omega
  · have := gr_ge e; omega
theorem lo_zero {u : List Nat} (h : u ≠ []) : lo u = 0 ↔ 0 ∈ u := by
  constructor
  · intro e; rw [← e]; exact lo_in h
  · intro e; have := lo_le e; omega
theorem fold_snoc {α β : Type} (f : β → α → β) (v : β) {l : List α} {j : Nat} {x : α} (hx : l[j]? = some x) : (l.take (j + 1)).foldl f v = f ((l.take j).foldl f v) x := by
  rw [List.take_add_one, hx, List.foldl_append]; rfl
theorem wid_mono {a b : Nat} (h : a ≤ b) : wid a ≤ wid b := (wid_le _ _).2 (Nat.lt_of_le_of_lt h ((wid_le _ _).1 (Nat.le_refl _)))
theorem wid_max (a b : Nat) : wid (max a b) = max (wid a) (wid b) := by
  rcases Nat.le_total a b with h | h
  · rw [Nat.max_eq_right h, Nat.max_eq_right (wid_mono h)]
  · rw [Nat.max_eq_left h, Nat.max_eq_left (wid_mono h)]
theorem lt_wid (a : Nat) : a < 2 ^ wid a := (wid_le _ _).1 (Nat.le_refl _)

/-! a block -/
/-- The offsets of a block. -/
def off (m : Int) (d : List Int) : List Nat := d.map fun x => (x - m).toNat
theorem off_len (m : Int) (d : List Int) : (off m d).length = d.length := List.length_map _
theorem off_at {m : Int} {d : List Int} {i : Nat} {x : Int} (h : d[i]? = some x) : (off m d)[i]? = some (x - m).toNat := by unfold off; rw [List.getElem?_map, h]; rfl
def offs (d : List Int) : List Nat := off (lst d) d
def wd (d : List Int) : Nat := wid (gr (offs d))
theorem offs_len (d : List Int) : (offs d).length = d.length := off_len _ _
theorem offs_ne {d : List Int} (h : d ≠ []) : offs d ≠ [] := by unfold offs off; simpa using h
theorem off_lt {m : Int} {d : List Int} (h : I64 d) (hm : -9223372036854775808 ≤ m) : ∀ x ∈ off m d, x < 18446744073709551616 := by
  intro x hx
  simp only [off, List.mem_map] at hx
  obtain ⟨y, hy, rfl⟩ := hx
  have := h y hy
  omega
theorem lst_bd {d : List Int} (h : I64 d) (hd : d ≠ []) : -9223372036854775808 ≤ lst d ∧ lst d ≤ 9223372036854775807 := h _ (lst_in hd)
theorem offs_lt {d : List Int} (h : I64 d) (hd : d ≠ []) : ∀ x ∈ offs d, x < 18446744073709551616 := off_lt h (lst_bd h hd).1
theorem wd_le {d : List Int} (h : I64 d) (hd : d ≠ []) : wd d ≤ 64 := wid_64 (offs_lt h hd _ (gr_in (offs_ne hd)))
theorem offs_wd (d : List Int) : ∀ x ∈ offs d, x < 2 ^ wd d := fun _ hx => Nat.lt_of_le_of_lt (gr_ge hx) (lt_wid _)
/-- The bytes of a block. -/
def blk (d : List Int) : List UInt8 := putL (zigN (lst d)).toNat ++ [UInt8.ofNat (wd d)] ++ packed (offs d) (wd d)
theorem need8 {c w : Nat} (h : w ≤ 64) : (c * w + 7) / 8 ≤ 8 * c := by
  have : c * w ≤ c * 64 := Nat.mul_le_mul_left _ h
  omega
theorem blk_len {d : List Int} (h : I64 d) (hd : d ≠ []) : (blk d).length ≤ 11 + 8 * d.length := by
  have h1 := putL_len10 (zig_lt (lst_bd h hd))
  have h2 := need8 (c := d.length) (wd_le h hd)
  unfold blk
  rw [List.length_append, List.length_append, packed_len, offs_len]
  simp only [List.length_cons, List.length_nil]
  omega
/-- The encoding of the differences. -/
def encB (d : List Int) : List UInt8 := if d.length = 0 then [] else blk (d.take 32) ++ encB (d.drop 32)
termination_by d.length
decreasing_by rw [List.length_drop]; omega
theorem encB_nil : encB [] = [] := by rw [encB]; simp
theorem encB_go {d : List Int} (h : d ≠ []) : encB d = blk (d.take 32) ++ encB (d.drop 32) := by
  rw [encB, if_neg]
  intro e; exact h (List.eq_nil_of_length_eq_zero e)
theorem take_ne {d : List Int} (h : d ≠ []) : d.take 32 ≠ [] := by
  cases d with
  | nil => exact absurd rfl h
  | cons x d => simp
theorem i64_take {d : List Int} (h : I64 d) (n : Nat) : I64 (d.take n) := fun z hz => h z (List.mem_of_mem_take hz)
theorem encB_len : ∀ (n : Nat) (d : List Int), d.length ≤ n → I64 d → (encB d).length ≤ 19 * d.length
  | 0, d, hn, _ => by
    have : d = [] := List.eq_nil_of_length_eq_zero (by omega)
    subst this; rw [encB_nil]; simp
  | n + 1, d, hn, hi => by
    by_cases h : d = []
    · subst h; rw [encB_nil]; simp
    · have h1 := blk_len (i64_take hi 32) (take_ne h)
      have hl : 0 < d.length := List.length_pos_iff.2 h
      have h2 := encB_len n (d.drop 32) (by rw [List.length_drop]; omega) (hi.drop 32)
      rw [encB_go h, List.length_append]
      rw [List.length_drop] at h2
      rw [List.length_take] at h1
      omega
/-- The encoding of a list. -/
def encL (l : List Int) : List UInt8 := match l with
  | [] => []
  | x :: _ => putL (zigN x).toNat ++ encB (df l)
def encX (l : List Int) : List UInt8 := if 4096 < l.length then [] else encL l
theorem encX_nil : encX [] = [] := rfl
theorem encX_out {l : List Int} (h : 4096 < l.length) : encX l = [] := by unfold encX; rw [if_pos h]
theorem encX_in {x : Int} {l : List Int} (h : (x :: l).length ≤ 4096) : encX (x :: l) = putL (zigN x).toNat ++ encB (df (x :: l)) := by
  unfold encX; rw [if_neg (by omega)]; rfl
theorem encX_len {l : List Int} (hi : I64 l) : (encX l).length ≤ 77834 := by
  by_cases h : 4096 < l.length
  · rw [encX_out h]; decide
  · cases l with
    | nil => decide
    | cons x r =>
      rw [encX_in (by omega), List.length_append]
      have h1 := putL_len10 (zig_lt hi.head)
      have h2 := encB_len _ (df (x :: r)) (Nat.le_refl _) (df_i64 _)
      have h3 := df_len (x :: r)
      omega

/-! reading -/
/-- Whether these are the offsets of a block with the least difference m, packed with w bits. -/
def okO (u : List Nat) (w : Nat) (m : Int) : Prop := lo u = 0 ∧ wid (gr u) = w ∧ m + gr u ≤ 9223372036854775807
instance (u : List Nat) (w : Nat) (m : Int) : Decidable (okO u w m) := by unfold okO; infer_instance
/-- The packed bytes of a block. -/
def pk (s : ByteArray) (b n : Nat) : ByteArray := s.extract (b + 1) (b + 1 + n)
/-- What is read of one block of c differences. -/
def getB (s : ByteArray) (p : Int) (c : Nat) : List Int × Nat × Nat :=
  if (getR s p).2.2 ≠ 0 then ([], 0, (getR s p).2.2)
  else if (getR s p).2.1 = s.size then ([], 0, 10)
  else if 64 < bN s (getR s p).2.1.toNat then ([], 0, 2)
  else if s.size < (getR s p).2.1.toNat + 1 + (c * bN s (getR s p).2.1.toNat + 7) / 8 then ([], 0, 10)
  else if ¬ num (pk s (getR s p).2.1.toNat ((c * bN s (getR s p).2.1.toNat + 7) / 8)) < 2 ^ (c * bN s (getR s p).2.1.toNat) then ([], 0, 2)
  else if okO (digs (bN s (getR s p).2.1.toNat) c (num (pk s (getR s p).2.1.toNat ((c * bN s (getR s p).2.1.toNat + 7) / 8)))) (bN s (getR s p).2.1.toNat) (zagN (getR s p).1) then
    ((digs (bN s (getR s p).2.1.toNat) c (num (pk s (getR s p).2.1.toNat ((c * bN s (getR s p).2.1.toNat + 7) / 8)))).map (fun o : Nat => zagN (getR s p).1 + o), (getR s p).2.1.toNat + 1 + (c * bN s (getR s p).2.1.toNat + 7) / 8, 0)
  else ([], 0, 2)
section
variable {s : ByteArray} {p : Int} {c a b w n : Nat}
theorem getB_e {b : Int} {e : Nat} (hg : getR s p = (a, b, e)) (he : e ≠ 0) : getB s p c = ([], 0, e) := by unfold getB; rw [hg, if_pos he]
theorem getB_end (hg : getR s p = (a, (b : Int), 0)) (hb : b = s.size) : getB s p c = ([], 0, 10) := by
  unfold getB; rw [hg, if_neg (by simp), if_pos (by simp only; omega)]
theorem getB_w (hg : getR s p = (a, (b : Int), 0)) (hb : b < s.size) (hw : bN s b = w) (h : 64 < w) : getB s p c = ([], 0, 2) := by
  unfold getB; rw [hg, if_neg (by simp), if_neg (by simp only; omega), if_pos (by simp only [Int.toNat_natCast]; omega)]
theorem getB_short (hg : getR s p = (a, (b : Int), 0)) (hb : b < s.size) (hw : bN s b = w) (h : w ≤ 64) (hn : (c * w + 7) / 8 = n) (hs : s.size < b + 1 + n) : getB s p c = ([], 0, 10) := by
  subst hw; subst hn
  unfold getB; rw [hg, if_neg (by simp), if_neg (by simp only; omega), if_neg (by simp only [Int.toNat_natCast]; omega), if_pos (by simp only [Int.toNat_natCast]; exact hs)]
theorem getB_rest (hg : getR s p = (a, (b : Int), 0)) (hb : b < s.size) (hw : bN s b = w) (h : w ≤ 64) (hn : (c * w + 7) / 8 = n) (hs : b + 1 + n ≤ s.size) (hr : ¬ num (pk s b n) < 2 ^ (c * w)) : getB s p c = ([], 0, 2) := by
  subst hw; subst hn
  unfold getB; rw [hg, if_neg (by simp), if_neg (by simp only; omega), if_neg (by simp only [Int.toNat_natCast]; omega), if_neg (by simp only [Int.toNat_natCast]; omega), if_pos (by simp only [Int.toNat_natCast]; exact hr)]
theorem getB_off {u : List Nat} (hg : getR s p = (a, (b : Int), 0)) (hb : b < s.size) (hw : bN s b = w) (h : w ≤ 64) (hn : (c * w + 7) / 8 = n) (hs : b + 1 + n ≤ s.size) (hr : num (pk s b n) < 2 ^ (c * w)) (hu : digs w c (num (pk s b n)) = u) (ho : ¬ okO u w (zagN a)) : getB s p c = ([], 0, 2) := by
  subst hw; subst hn; subst hu
  unfold getB; rw [hg, if_neg (by simp), if_neg (by simp only; omega), if_neg (by simp only [Int.toNat_natCast]; omega), if_neg (by simp only [Int.toNat_natCast]; omega), if_neg (by simp only [Int.toNat_natCast]; exact fun e => e hr), if_neg (by simp only [Int.toNat_natCast]; exact ho)]
theorem getB_ok {u : List Nat} (hg : getR s p = (a, (b : Int), 0)) (hb : b < s.size) (hw : bN s b = w) (h : w ≤ 64) (hn : (c * w + 7) / 8 = n) (hs : b + 1 + n ≤ s.size) (hr : num (pk s b n) < 2 ^ (c * w)) (hu : digs w c (num (pk s b n)) = u) (ho : okO u w (zagN a)) : getB s p c = (u.map (fun o : Nat => zagN a + o), b + 1 + n, 0) := by
  subst hw; subst hn; subst hu
  unfold getB; rw [hg, if_neg (by simp), if_neg (by simp only; omega), if_neg (by simp only [Int.toNat_natCast]; omega), if_neg (by simp only [Int.toNat_natCast]; omega), if_neg (by simp only [Int.toNat_natCast]; exact fun e => e hr), if_pos (by simp only [Int.toNat_natCast]; exact ho)]
  rfl
end
theorem pk_size {s : ByteArray} {b n : Nat} (h : b + 1 + n ≤ s.size) : (pk s b n).size = n := by unfold pk; rw [ByteArray.size_extract]; omega
/-- The list with its next elements. -/
def acc (l d : List Int) : List Int := d.foldl (fun l x => l ++ [wrap64 (l.getLastD 0 + x)]) l
theorem acc_nil (l : List Int) : acc l [] = l := rfl
theorem acc_snoc (l : List Int) {d : List Int} {j : Nat} {x : Int} (hx : d[j]? = some x) : acc l (d.take (j + 1)) = acc l (d.take j) ++ [wrap64 ((acc l (d.take j)).getLastD 0 + x)] := fold_snoc _ l hx
theorem acc_app (l a b : List Int) : acc l (a ++ b) = acc (acc l a) b := List.foldl_append
theorem acc_len : ∀ (d l : List Int), (acc l d).length = l.length + d.length
  | [], l => rfl
  | x :: d, l => by
    show (acc (l ++ [wrap64 (l.getLastD 0 + x)]) d).length = _
    rw [acc_len d, List.length_append, List.length_cons]; simp; omega
theorem acc_df : ∀ (r l : List Int) (x : Int), l.getLast? = some x → I64 (x :: r) → acc l (df (x :: r)) = l ++ r
  | [], l, x, _, _ => by rw [df, acc_nil, List.append_nil]
  | y :: r, l, x, hl, hi => by
    have e : l.getLastD 0 = x := by rw [List.getLastD_eq_getLast?, hl]; rfl
    have hy := hi.tail.head
    have e2 : wrap64 (x + wrap64 (y - x)) = y := by unfold wrap64; omega
    show acc (l ++ [wrap64 (l.getLastD 0 + wrap64 (y - x))]) (df (y :: r)) = _
    rw [e, e2, acc_df r (l ++ [y]) y (by simp) hi.tail, List.append_assoc]; rfl
/-- What Decode finds from place p on, with m elements to come behind the elements l. -/
def decB (s : ByteArray) (m : Nat) (p : Int) (l : List Int) : List Int × Nat :=
  if m = 0 then (if p < s.size then ([], 2) else (l, 0))
  else if (getB s p (min m 32)).2.2 ≠ 0 then ([], (getB s p (min m 32)).2.2)
  else decB s (m - min m 32) (getB s p (min m 32)).2.1 (acc l (getB s p (min m 32)).1)
termination_by m
decreasing_by omega
section
variable {s : ByteArray} {m : Nat} {p : Int} {l : List Int}
theorem decB_left (h : m = 0) (hp : p < s.size) : decB s m p l = ([], 2) := by rw [decB, if_pos h, if_pos hp]
theorem decB_done (h : m = 0) (hp : ¬ p < s.size) : decB s m p l = (l, 0) := by rw [decB, if_pos h, if_neg hp]
theorem decB_e {c : Nat} {d : List Int} {q e : Nat} (h : m ≠ 0) (hc : min m 32 = c) (hg : getB s p c = (d, q, e)) (he : e ≠ 0) : decB s m p l = ([], e) := by subst hc; rw [decB, if_neg h, hg, if_pos he]
theorem decB_go {c : Nat} {d : List Int} {q : Nat} (h : m ≠ 0) (hc : min m 32 = c) (hg : getB s p c = (d, q, 0)) : decB s m p l = decB s (m - c) q (acc l d) := by subst hc; rw [decB, if_neg h, hg, if_neg (by simp)]
end
/-- What Decode finds. -/
def decX (s : ByteArray) (n : Int) : List Int × Nat :=
  if n < 0 ∨ 4096 < n then ([], 4) else if n = 0 then (if s.size = 0 then ([], 0) else ([], 2))
  else if (getR s 0).2.2 ≠ 0 then ([], (getR s 0).2.2) else decB s (n.toNat - 1) (getR s 0).2.1 [zagN (getR s 0).1]
theorem decX_out {s : ByteArray} {n : Int} (h : n < 0 ∨ 4096 < n) : decX s n = ([], 4) := by unfold decX; rw [if_pos h]
theorem decX_nil {s : ByteArray} (h : s.size = 0) : decX s 0 = ([], 0) := by unfold decX; rw [if_neg (by omega), if_pos rfl, if_pos h]
theorem decX_some {s : ByteArray} (h : s.size ≠ 0) : decX s 0 = ([], 2) := by unfold decX; rw [if_neg (by omega), if_pos rfl, if_neg h]
theorem decX_e {s : ByteArray} {n a e : Nat} {b : Int} (hn : n ≤ 4096) (h0 : n ≠ 0) (hg : getR s 0 = (a, b, e)) (he : e ≠ 0) : decX s n = ([], e) := by
  unfold decX; rw [if_neg (by omega), if_neg (by omega), hg, if_pos he]
theorem decX_go {s : ByteArray} {n a : Nat} {b : Int} (hn : n ≤ 4096) (h0 : n ≠ 0) (hg : getR s 0 = (a, b, 0)) : decX s n = decB s (n - 1) b [zagN a] := by
  unfold decX; rw [if_neg (by omega), if_neg (by omega), hg, if_neg (by simp), Int.toNat_natCast]

/-! what was encoded is read again -/
theorem off_map {m : Int} {d : List Int} (h : ∀ x ∈ d, m ≤ x) : (off m d).map (fun o : Nat => m + o) = d := by
  unfold off
  rw [List.map_map]
  refine (List.map_congr_left fun x hx => ?_).trans (List.map_id d)
  have := h x hx
  simp only [Function.comp_def, id]
  omega
theorem ok_offs {d : List Int} (h : I64 d) (hd : d ≠ []) : okO (offs d) (wd d) (lst d) := by
  refine ⟨(lo_zero (offs_ne hd)).2 ?_, rfl, ?_⟩
  · have := lst_in hd
    unfold offs off
    rw [List.mem_map]
    exact ⟨_, this, by omega⟩
  · have hg := gr_in (offs_ne hd)
    generalize gr (offs d) = g at hg
    unfold offs off at hg
    rw [List.mem_map] at hg
    obtain ⟨x, hx, rfl⟩ := hg
    have h1 := lst_le hx
    have h2 := h x hx
    omega
theorem getB_blk {s : ByteArray} {pre rest : List UInt8} {d : List Int} (hi : I64 d) (hd : d ≠ []) (hl : d.length ≤ 4096) (hs : s.data.toList = pre ++ (blk d ++ rest)) :
    getB s ((pre.length : Nat) : Int) d.length = (d, (pre ++ blk d).length, 0) := by
  have hm := lst_bd hi hd
  have hz := zig_bd hm.1 hm.2
  have hw := wd_le hi hd
  have hs2 : s.data.toList = pre ++ putL (zigN (lst d)).toNat ++ (UInt8.ofNat (wd d) :: (packed (offs d) (wd d) ++ rest)) := by
    rw [hs]; unfold blk; simp only [List.append_assoc, List.cons_append, List.nil_append]
  have hg := getR_put (s := s) (a := pre) (r := UInt8.ofNat (wd d) :: (packed (offs d) (wd d) ++ rest)) (zig_lt hm) hs2
  generalize hb : (pre ++ putL (zigN (lst d)).toNat).length = b at hg
  have hpl := packed_len (offs d) (wd d)
  rw [offs_len] at hpl
  have hsz : s.size = b + 1 + (d.length * wd d + 7) / 8 + rest.length := by
    rw [← size_list, hs2, List.length_append, hb, List.length_cons, List.length_append, hpl]; omega
  have hbn : bN s b = wd d := by
    unfold bN
    rw [hs2, ← hb, List.getD_eq_getElem?_getD, List.getElem?_append_right (Nat.le_refl _), Nat.sub_self]
    exact Nat.mod_eq_of_lt (by omega : wd d < 256)
  have hpk : pk s b ((d.length * wd d + 7) / 8) = str (packed (offs d) (wd d)) := by
    unfold pk
    rw [extract_str, hs2, ← hb]
    congr 1
    rw [show (pre ++ putL (zigN (lst d)).toNat).length + 1 = (pre ++ putL (zigN (lst d)).toNat).length + (1 : Nat) from rfl, List.drop_append, List.drop_eq_nil_of_le (by omega), List.nil_append]
    rw [show (pre ++ putL (zigN (lst d)).toNat).length + 1 - (pre ++ putL (zigN (lst d)).toNat).length = 1 from by omega, List.drop_succ_cons, List.drop_zero]
    rw [show (pre ++ putL (zigN (lst d)).toNat).length + 1 + (d.length * wd d + 7) / 8 - ((pre ++ putL (zigN (lst d)).toNat).length + 1) = (packed (offs d) (wd d)).length from by rw [hpl]; omega, List.take_left]
  have hrt := round_trip (l := offs d) hw (by rw [offs_len]; exact hl) (offs_wd d)
  have hN : num (str (packed (offs d) (wd d))) < 2 ^ (d.length * wd d) ∧ digs (wd d) d.length (num (str (packed (offs d) (wd d)))) = offs d := by
    rw [offs_len] at hrt
    by_cases hn : num (str (packed (offs d) (wd d))) < 2 ^ (d.length * wd d)
    · rw [unpackR_ok hl hw (by rw [str_size, hpl]) hn] at hrt
      exact ⟨hn, (Prod.mk.inj hrt).1⟩
    · rw [unpackR_rest hl hw (by rw [str_size, hpl]) hn] at hrt
      exact absurd (Prod.mk.inj hrt).2 (by simp)
  have ez : zagN (((zigN (lst d)).toNat : Nat) : Int) = lst d := by rw [Int.toNat_of_nonneg hz.1, zag_zig]
  rw [getB_ok (u := offs d) hg (by omega) hbn hw rfl (by omega) (by rw [hpk]; exact hN.1) (by rw [hpk]; exact hN.2) (by rw [ez]; exact ok_offs hi hd), ez]
  refine Prod.mk.injEq .. ▸ ⟨off_map (fun x hx => lst_le hx), ?_⟩
  refine Prod.mk.injEq .. ▸ ⟨?_, rfl⟩
  unfold blk
  rw [← hb]
  simp only [List.length_append, List.length_cons, List.length_nil, hpl]
  omega
theorem decB_enc (s : ByteArray) : ∀ (k : Nat) (d l : List Int) (pre : List UInt8), d.length ≤ k → I64 d → s.data.toList = pre ++ encB d → decB s d.length (pre.length : Nat) l = (acc l d, 0) := by
  intro k
  induction k with
  | zero =>
    intro d l pre hk _ hs
    have : d = [] := List.eq_nil_of_length_eq_zero (by omega)
    subst this
    rw [encB_nil, List.append_nil] at hs
    rw [show ([] : List Int).length = 0 from rfl, decB_done rfl (by rw [← size_list, hs]; omega), acc_nil]
  | succ k ih =>
    intro d l pre hk hi hs
    by_cases h : d = []
    · subst h; exact ih [] l pre (by simp) hi hs
    · have hl : 0 < d.length := List.length_pos_iff.2 h
      rw [encB_go h] at hs
      have hc : min d.length 32 = (d.take 32).length := by rw [List.length_take]; omega
      have hg := getB_blk (i64_take hi 32) (take_ne h) (by rw [List.length_take]; omega) hs
      rw [decB_go (by omega) hc hg]
      have hd : d.length - (d.take 32).length = (d.drop 32).length := by rw [List.length_take, List.length_drop]; omega
      rw [hd, ih (d.drop 32) _ (pre ++ blk (d.take 32)) (by rw [List.length_drop]; omega) (hi.drop 32) (by rw [hs, List.append_assoc]), ← acc_app, List.take_append_drop]
theorem decX_enc {l : List Int} (h : l.length ≤ 4096) (hi : I64 l) : decX (str (encX l)) (l.length : Nat) = (l, 0) := by
  cases l with
  | nil => exact decX_nil rfl
  | cons x r =>
    rw [encX_in h]
    have hz := zig_bd hi.head.1 hi.head.2
    have hs : (str (putL (zigN x).toNat ++ encB (df (x :: r)))).data.toList = [] ++ putL (zigN x).toNat ++ encB (df (x :: r)) := rfl
    have hg := getR_put (zig_lt hi.head) hs
    have ez : zagN (((zigN x).toNat : Nat) : Int) = x := by rw [Int.toNat_of_nonneg hz.1, zag_zig]
    rw [decX_go h (by simp) hg, ez]
    have hd : (x :: r).length - 1 = (df (x :: r)).length := (df_len _).symm
    rw [hd, List.nil_append, decB_enc _ _ (df (x :: r)) [x] (putL (zigN x).toNat) (Nat.le_refl _) (df_i64 _) rfl, acc_df r [x] x rfl hi]
    rfl

/-! equal differences -/
theorem fold_rep (v : Int) : ∀ k, (List.replicate k v).foldl min v = v
  | 0 => rfl
  | k + 1 => by rw [List.replicate_succ, List.foldl_cons, Int.min_self]; exact fold_rep v k
theorem lst_rep (v : Int) (k : Nat) (hk : 0 < k) : lst (List.replicate k v) = v := by
  obtain ⟨j, rfl⟩ : ∃ j, k = j + 1 := ⟨k - 1, by omega⟩
  exact fold_rep v (j + 1)
theorem blk_rep {v : Int} {k : Nat} (hk : 0 < k) (hv : -9223372036854775808 ≤ v ∧ v ≤ 9223372036854775807) : (blk (List.replicate k v)).length ≤ 11 := by
  have h1 := putL_len10 (zig_lt hv)
  have ho : offs (List.replicate k v) = List.replicate k 0 := by unfold offs off; rw [lst_rep v k hk, List.map_replicate]; simp
  have hw : wd (List.replicate k v) = 0 := by
    unfold wd
    have hg : gr (List.replicate k 0) = 0 := by
      have := gr_in (u := List.replicate k 0) (by rw [Ne, List.replicate_eq_nil_iff]; omega)
      exact List.eq_of_mem_replicate this
    rw [ho, hg, wid_zero]
  unfold blk
  rw [List.length_append, List.length_append, packed_len, offs_len, hw, lst_rep v k hk]
  simp only [List.length_cons, List.length_nil]
  omega
theorem encB_rep {v : Int} (hv : -9223372036854775808 ≤ v ∧ v ≤ 9223372036854775807) : ∀ (n k : Nat), k ≤ n → (encB (List.replicate k v)).length ≤ 11 * ((k + 31) / 32) := by
  intro n
  induction n with
  | zero =>
    intro k hk
    obtain rfl : k = 0 := by omega
    rw [List.replicate_zero, encB_nil]; simp
  | succ n ih =>
    intro k hk
    by_cases h : k = 0
    · subst h; rw [List.replicate_zero, encB_nil]; simp
    · rw [encB_go (by rw [Ne, List.replicate_eq_nil_iff]; exact h), List.length_append, List.take_replicate, List.drop_replicate]
      have h1 := blk_rep (v := v) (k := min 32 k) (by omega) hv
      have h2 := ih (k - 32) (by omega)
      omega
/-- The list of n numbers from v on with equal steps. -/
def stp (t : Int) : Nat → Int → List Int
  | 0, _ => []
  | n + 1, v => v :: stp t n (wrap64 (v + t))
theorem stp_len (t : Int) : ∀ n v, (stp t n v).length = n
  | 0, _ => rfl
  | n + 1, v => by rw [stp, List.length_cons, stp_len t n]
theorem stp_i64 (t : Int) : ∀ n v, (-9223372036854775808 ≤ v ∧ v ≤ 9223372036854775807) → I64 (stp t n v)
  | 0, _, _, z, hz => by simp [stp] at hz
  | n + 1, v, hv, z, hz => by
    rw [stp] at hz
    rcases List.mem_cons.1 hz with h | h
    · rw [h]; exact hv
    · exact stp_i64 t n _ (wrap_bd _) z h
theorem stp_df (t : Int) (ht : -9223372036854775808 ≤ t ∧ t ≤ 9223372036854775807) : ∀ n v, df (stp t (n + 1) v) = List.replicate n t
  | 0, _ => rfl
  | n + 1, v => by
    have ih := stp_df t ht n (wrap64 (v + t))
    rw [stp, stp, df]
    rw [stp] at ih
    rw [ih, List.replicate_succ]
    congr 1
    unfold wrap64; omega
/-- Its number n. -/
def nth (t : Int) : Nat → Int → Int
  | 0, v => v
  | n + 1, v => nth t n (wrap64 (v + t))
theorem nth_succ (t : Int) : ∀ n v, nth t (n + 1) v = wrap64 (nth t n v + t)
  | 0, _ => rfl
  | n + 1, v => nth_succ t n (wrap64 (v + t))
theorem nth_bd (t : Int) : ∀ n v, (-9223372036854775808 ≤ v ∧ v ≤ 9223372036854775807) → -9223372036854775808 ≤ nth t n v ∧ nth t n v ≤ 9223372036854775807
  | 0, _, h => h
  | n + 1, _, _ => nth_bd t n _ (wrap_bd _)
theorem stp_snoc (t : Int) : ∀ n v, stp t (n + 1) v = stp t n v ++ [nth t n v]
  | 0, _ => rfl
  | n + 1, v => by
    rw [stp, stp_snoc t n, stp, List.cons_append]
    rfl
theorem stp_enc {t v : Int} {n : Nat} (hn : n + 1 ≤ 4096) (ht : -9223372036854775808 ≤ t ∧ t ≤ 9223372036854775807) (hv : -9223372036854775808 ≤ v ∧ v ≤ 9223372036854775807) : (encX (stp t (n + 1) v)).length ≤ 10 + 11 * ((n + 31) / 32) := by
  have h1 := putL_len10 (zig_lt hv)
  have h2 := encB_rep ht n n (Nat.le_refl _)
  have e := stp_df t ht n v
  have hl := stp_len t (n + 1) v
  rw [stp] at e hl ⊢
  rw [encX_in (by omega), e, List.length_append]
  omega
end Go.DL
