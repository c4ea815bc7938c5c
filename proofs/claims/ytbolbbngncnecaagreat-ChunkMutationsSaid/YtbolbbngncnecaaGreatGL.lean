/- Several texts in one: Dlt DltW1 DltW2 DltW3 DltW4 DltW5. -/
import Derived.Test.YtbolbbngncnecaaGreatG9
import Derived.Test.YtbolbbngncnecaaGreatG2
import Derived.Test.YtbolbbngncnecaaGreatRleK
import Derived.Test.YtbolbbngncnecaaGreatGB
import Derived.Test.YtbolbbngncnecaaGreatGD
import Derived.StillTailTactics
import Derived.Deep.RegionWith
/- Differences: the list of differences of neighbours, a block's least difference, offsets and width, the encoding of a list, and what Decode finds in a text. -/
namespace Go.DL
open Go.RowKit Go.VB Go.VarM Go.BP Go.RL Go.Proofs.YtbolbbngncnecaaGreat

theorem wrap_in {z : Int} (h : -9223372036854775808 ≤ z ∧ z ≤ 9223372036854775807) : wrap64 z = z := by unfold wrap64; omega
theorem wrap_bd (z : Int) : -9223372036854775808 ≤ wrap64 z ∧ wrap64 z ≤ 9223372036854775807 := by unfold wrap64; omega
theorem wrap_eq (z : Int) : IntKind.i64.wrap z = wrap64 z := by rw [IntKind.wrap_i64]; unfold wrap64; rfl

/-- The differences of neighbours, with sign, modulo 2^64. -/
def df : List Int → List Int
  | [] => []
  | [_] => []
  | x :: y :: r => wrap64 (y - x) :: df (y :: r)
theorem df_len : ∀ l : List Int, (df l).length = l.length - 1
  | [] => rfl
  | [_] => rfl
  | x :: y :: r => by rw [df, List.length_cons, df_len (y :: r)]; simp
theorem df_at : ∀ {l : List Int} {i : Nat} {x y : Int}, l[i]? = some x → l[i + 1]? = some y → (df l)[i]? = some (wrap64 (y - x))
  | [], i, x, y, h, _ => by simp at h
  | [a], i, x, y, _, h => by simp at h
  | a :: b :: r, 0, x, y, h1, h2 => by
    simp at h1 h2; subst h1; subst h2; rfl
  | a :: b :: r, i + 1, x, y, h1, h2 => by
    rw [df, List.getElem?_cons_succ]
    exact df_at (l := b :: r) (by simpa using h1) (by simpa using h2)
theorem df_i64 : ∀ l : List Int, I64 (df l)
  | [], z, hz => by simp [df] at hz
  | [_], z, hz => by simp [df] at hz
  | x :: y :: r, z, hz => by
    rw [df] at hz
    rcases List.mem_cons.1 hz with h | h
    · rw [h]; exact wrap_bd _
    · exact df_i64 (y :: r) z h

/-! least and greatest -/
theorem minl_le : ∀ (l : List Int) (v : Int), l.foldl min v ≤ v ∧ ∀ x ∈ l, l.foldl min v ≤ x
  | [], v => ⟨Int.le_refl _, fun _ h => by simp at h⟩
  | y :: l, v => by
    obtain ⟨h1, h2⟩ := minl_le l (min v y)
    rw [List.foldl_cons]
    refine ⟨by omega, fun x hx => ?_⟩
    rcases List.mem_cons.1 hx with h | h
    · subst h; omega
    · exact h2 x h
theorem minl_in : ∀ (l : List Int) (v : Int), l.foldl min v = v ∨ l.foldl min v ∈ l
  | [], v => .inl rfl
  | y :: l, v => by
    rw [List.foldl_cons]
    rcases minl_in l (min v y) with h | h
    · rcases Int.le_total v y with hv | hv
      · left; omega
      · right; rw [h, Int.min_eq_right hv]; exact List.mem_cons_self ..
    · right; exact List.mem_cons_of_mem _ h
/-- The least element. -/
def lst (d : List Int) : Int := d.foldl min (d.headD 0)
theorem lst_le {d : List Int} {x : Int} (h : x ∈ d) : lst d ≤ x := (minl_le d _).2 x h
theorem lst_in {d : List Int} (h : d ≠ []) : lst d ∈ d := by
  unfold lst
  rcases minl_in d (d.headD 0) with e | e
  · rw [e]
    cases d with
    | nil => exact absurd rfl h
    | cons x d => exact List.mem_cons_self ..
  · exact e
theorem minn_le : ∀ (l : List Nat) (v : Nat), l.foldl min v ≤ v ∧ ∀ x ∈ l, l.foldl min v ≤ x
  | [], v => ⟨Nat.le_refl _, fun _ h => by simp at h⟩
  | y :: l, v => by
    obtain ⟨h1, h2⟩ := minn_le l (min v y)
    rw [List.foldl_cons]
    refine ⟨by omega, fun x hx => ?_⟩
    rcases List.mem_cons.1 hx with h | h
    · subst h; omega
    · exact h2 x h
theorem minn_in : ∀ (l : List Nat) (v : Nat), l.foldl min v = v ∨ l.foldl min v ∈ l
  | [], v => .inl rfl
  | y :: l, v => by
    rw [List.foldl_cons]
    rcases minn_in l (min v y) with h | h
    · rcases Nat.le_total v y with hv | hv
      · left; omega
      · right; rw [h, Nat.min_eq_right hv]; exact List.mem_cons_self ..
    · right; exact List.mem_cons_of_mem _ h
theorem maxn_ge : ∀ (l : List Nat) (v : Nat), v ≤ l.foldl max v ∧ ∀ x ∈ l, x ≤ l.foldl max v
  | [], v => ⟨Nat.le_refl _, fun _ h => by simp at h⟩
  | y :: l, v => by
    obtain ⟨h1, h2⟩ := maxn_ge l (max v y)
    rw [List.foldl_cons]
    refine ⟨by omega, fun x hx => ?_⟩
    rcases List.mem_cons.1 hx with h | h
    · subst h; omega
    · exact h2 x h
theorem maxn_in : ∀ (l : List Nat) (v : Nat), l.foldl max v = v ∨ l.foldl max v ∈ l
  | [], v => .inl rfl
  | y :: l, v => by
    rw [List.foldl_cons]
    rcases maxn_in l (max v y) with h | h
    · rcases Nat.le_total y v with hv | hv
      · left; omega
      · right; rw [h, Nat.max_eq_right hv]; exact List.mem_cons_self ..
    · right; exact List.mem_cons_of_mem _ h
/-- The least and the greatest number. -/
def lo (u : List Nat) : Nat := u.foldl min (u.headD 0)
def gr (u : List Nat) : Nat := u.foldl max (u.headD 0)
theorem head_in {u : List Nat} (h : u ≠ []) : u.headD 0 ∈ u := by
  cases u with
  | nil => exact absurd rfl h
  | cons x d => exact List.mem_cons_self ..
theorem lo_le {u : List Nat} {x : Nat} (h : x ∈ u) : lo u ≤ x := (minn_le u _).2 x h
theorem lo_in {u : List Nat} (h : u ≠ []) : lo u ∈ u := by
  unfold lo
  rcases minn_in u (u.headD 0) with e | e
  · rw [e]; exact head_in h
  · exact e
theorem gr_ge {u : List Nat} {x : Nat} (h : x ∈ u) : x ≤ gr u := (maxn_ge u _).2 x h
theorem gr_in {u : List Nat} (h : u ≠ []) : gr u ∈ u := by
  unfold gr
  rcases maxn_in u (u.headD 0) with e | e
  · rw [e]; exact head_in h
  · exact e
theorem gr_zero {u : List Nat} (h : u ≠ []) : u.foldl max 0 = gr u := by
  have h1 := (maxn_ge u 0).2 _ (gr_in h)
  rcases maxn_in u 0 with e | e
  · omega
  · have := gr_ge e; omega
theorem lo_zero {u : List Nat} (h : u ≠ []) : lo u = 0 ↔ 0 ∈ u := by
  constructor
  · intro e; rw [← e]; exact lo_in h
  · intro e; have := lo_le e; omega
theorem fold_snoc {α β : Type} (f : β → α → β) (v : β) {l : List α} {j : Nat} {x : α} (hx : l[j]? = some x) : (l.take (j + 1)).foldl f v = f ((l.take j).foldl f v) x := by
  rw [List.take_add_one, hx, List.foldl_append]; rfl
theorem wid_mono {a b : Nat} (h : a ≤ b) : wid a ≤ wid b := (wid_le _ _).2 (Nat.lt_of_le_of_lt h ((wid_le _ _).1 (Nat.le_refl _)))
theorem wid_max (a b : Nat) : wid (max a b) = max (wid a) (wid b) := by
  rcases Nat.le_total a b with h | h
  · rw [Nat.max_eq_right h, Nat.max_eq_right (wid_mono h)]
  · rw [Nat.max_eq_left h, Nat.max_eq_left (wid_mono h)]
theorem lt_wid (a : Nat) : a < 2 ^ wid a := (wid_le _ _).1 (Nat.le_refl _)

/-! a block -/
/-- The offsets of a block. -/
def off (m : Int) (d : List Int) : List Nat := d.map fun x => (x - m).toNat
theorem off_len (m : Int) (d : List Int) : (off m d).length = d.length := List.length_map _
theorem off_at {m : Int} {d : List Int} {i : Nat} {x : Int} (h : d[i]? = some x) : (off m d)[i]? = some (x - m).toNat := by unfold off; rw [List.getElem?_map, h]; rfl
def offs (d : List Int) : List Nat := off (lst d) d
def wd (d : List Int) : Nat := wid (gr (offs d))
theorem offs_len (d : List Int) : (offs d).length = d.length := off_len _ _
theorem offs_ne {d : List Int} (h : d ≠ []) : offs d ≠ [] := by unfold offs off; simpa using h
theorem off_lt {m : Int} {d : List Int} (h : I64 d) (hm : -9223372036854775808 ≤ m) : ∀ x ∈ off m d, x < 18446744073709551616 := by
  intro x hx
  simp only [off, List.mem_map] at hx
  obtain ⟨y, hy, rfl⟩ := hx
  have := h y hy
  omega
theorem lst_bd {d : List Int} (h : I64 d) (hd : d ≠ []) : -9223372036854775808 ≤ lst d ∧ lst d ≤ 9223372036854775807 := h _ (lst_in hd)
theorem offs_lt {d : List Int} (h : I64 d) (hd : d ≠ []) : ∀ x ∈ offs d, x < 18446744073709551616 := off_lt h (lst_bd h hd).1
theorem wd_le {d : List Int} (h : I64 d) (hd : d ≠ []) : wd d ≤ 64 := wid_64 (offs_lt h hd _ (gr_in (offs_ne hd)))
theorem offs_wd (d : List Int) : ∀ x ∈ offs d, x < 2 ^ wd d := fun _ hx => Nat.lt_of_le_of_lt (gr_ge hx) (lt_wid _)
/-- The bytes of a block. -/
def blk (d : List Int) : List UInt8 := putL (zigN (lst d)).toNat ++ [UInt8.ofNat (wd d)] ++ packed (offs d) (wd d)
theorem need8 {c w : Nat} (h : w ≤ 64) : (c * w + 7) / 8 ≤ 8 * c := by
  have : c * w ≤ c * 64 := Nat.mul_le_mul_left _ h
  omega
theorem blk_len {d : List Int} (h : I64 d) (hd : d ≠ []) : (blk d).length ≤ 11 + 8 * d.length := by
  have h1 := putL_len10 (zig_lt (lst_bd h hd))
  have h2 := need8 (c := d.length) (wd_le h hd)
  unfold blk
  rw [List.length_append, List.length_append, packed_len, offs_len]
  simp only [List.length_cons, List.length_nil]
  omega
/-- The encoding of the differences. -/
def encB (d : List Int) : List UInt8 := if d.length = 0 then [] else blk (d.take 32) ++ encB (d.drop 32)
termination_by d.length
decreasing_by rw [List.length_drop]; omega
theorem encB_nil : encB [] = [] := by rw [encB]; simp
theorem encB_go {d : List Int} (h : d ≠ []) : encB d = blk (d.take 32) ++ encB (d.drop 32) := by
  rw [encB, if_neg]
  intro e; exact h (List.eq_nil_of_length_eq_zero e)
theorem take_ne {d : List Int} (h : d ≠ []) : d.take 32 ≠ [] := by
  cases d with
  | nil => exact absurd rfl h
  | cons x d => simp
theorem i64_take {d : List Int} (h : I64 d) (n : Nat) : I64 (d.take n) := fun z hz => h z (List.mem_of_mem_take hz)
theorem encB_len : ∀ (n : Nat) (d : List Int), d.length ≤ n → I64 d → (encB d).length ≤ 19 * d.length
  | 0, d, hn, _ => by
    have : d = [] := List.eq_nil_of_length_eq_zero (by omega)
    subst this; rw [encB_nil]; simp
  | n + 1, d, hn, hi => by
    by_cases h : d = []
    · subst h; rw [encB_nil]; simp
    · have h1 := blk_len (i64_take hi 32) (take_ne h)
      have hl : 0 < d.length := List.length_pos_iff.2 h
      have h2 := encB_len n (d.drop 32) (by rw [List.length_drop]; omega) (hi.drop 32)
      rw [encB_go h, List.length_append]
      rw [List.length_drop] at h2
      rw [List.length_take] at h1
      omega
/-- The encoding of a list. -/
def encL (l : List Int) : List UInt8 := match l with
  | [] => []
  | x :: _ => putL (zigN x).toNat ++ encB (df l)
def encX (l : List Int) : List UInt8 := if 4096 < l.length then [] else encL l
theorem encX_nil : encX [] = [] := rfl
theorem encX_out {l : List Int} (h : 4096 < l.length) : encX l = [] := by unfold encX; rw [if_pos h]
theorem encX_in {x : Int} {l : List Int} (h : (x :: l).length ≤ 4096) : encX (x :: l) = putL (zigN x).toNat ++ encB (df (x :: l)) := by
  unfold encX; rw [if_neg (by omega)]; rfl
theorem encX_len {l : List Int} (hi : I64 l) : (encX l).length ≤ 77834 := by
  by_cases h : 4096 < l.length
  · rw [encX_out h]; decide
  · cases l with
    | nil => decide
    | cons x r =>
      rw [encX_in (by omega), List.length_append]
      have h1 := putL_len10 (zig_lt hi.head)
      have h2 := encB_len _ (df (x :: r)) (Nat.le_refl _) (df_i64 _)
      have h3 := df_len (x :: r)
      omega

/-! reading -/
/-- Whether these are the offsets of a block with the least difference m, packed with w bits. -/
def okO (u : List Nat) (w : Nat) (m : Int) : Prop := lo u = 0 ∧ wid (gr u) = w ∧ m + gr u ≤ 9223372036854775807
instance (u : List Nat) (w : Nat) (m : Int) : Decidable (okO u w m) := by unfold okO; infer_instance
/-- The packed bytes of a block. -/
def pk (s : ByteArray) (b n : Nat) : ByteArray := s.extract (b + 1) (b + 1 + n)
/-- What is read of one block of c differences. -/
def getB (s : ByteArray) (p : Int) (c : Nat) : List Int × Nat × Nat :=
  if (getR s p).2.2 ≠ 0 then ([], 0, (getR s p).2.2)
  else if (getR s p).2.1 = s.size then ([], 0, 10)
  else if 64 < bN s (getR s p).2.1.toNat then ([], 0, 2)
  else if s.size < (getR s p).2.1.toNat + 1 + (c * bN s (getR s p).2.1.toNat + 7) / 8 then ([], 0, 10)
  else if ¬ num (pk s (getR s p).2.1.toNat ((c * bN s (getR s p).2.1.toNat + 7) / 8)) < 2 ^ (c * bN s (getR s p).2.1.toNat) then ([], 0, 2)
  else if okO (digs (bN s (getR s p).2.1.toNat) c (num (pk s (getR s p).2.1.toNat ((c * bN s (getR s p).2.1.toNat + 7) / 8)))) (bN s (getR s p).2.1.toNat) (zagN (getR s p).1) then
    ((digs (bN s (getR s p).2.1.toNat) c (num (pk s (getR s p).2.1.toNat ((c * bN s (getR s p).2.1.toNat + 7) / 8)))).map (fun o : Nat => zagN (getR s p).1 + o), (getR s p).2.1.toNat + 1 + (c * bN s (getR s p).2.1.toNat + 7) / 8, 0)
  else ([], 0, 2)
section
variable {s : ByteArray} {p : Int} {c a b w n : Nat}
theorem getB_e {b : Int} {e : Nat} (hg : getR s p = (a, b, e)) (he : e ≠ 0) : getB s p c = ([], 0, e) := by unfold getB; rw [hg, if_pos he]
theorem getB_end (hg : getR s p = (a, (b : Int), 0)) (hb : b = s.size) : getB s p c = ([], 0, 10) := by
  unfold getB; rw [hg, if_neg (by simp), if_pos (by simp only; omega)]
theorem getB_w (hg : getR s p = (a, (b : Int), 0)) (hb : b < s.size) (hw : bN s b = w) (h : 64 < w) : getB s p c = ([], 0, 2) := by
  unfold getB; rw [hg, if_neg (by simp), if_neg (by simp only; omega), if_pos (by simp only [Int.toNat_natCast]; omega)]
theorem getB_short (hg : getR s p = (a, (b : Int), 0)) (hb : b < s.size) (hw : bN s b = w) (h : w ≤ 64) (hn : (c * w + 7) / 8 = n) (hs : s.size < b + 1 + n) : getB s p c = ([], 0, 10) := by
  subst hw; subst hn
  unfold getB; rw [hg, if_neg (by simp), if_neg (by simp only; omega), if_neg (by simp only [Int.toNat_natCast]; omega), if_pos (by simp only [Int.toNat_natCast]; exact hs)]
theorem getB_rest (hg : getR s p = (a, (b : Int), 0)) (hb : b < s.size) (hw : bN s b = w) (h : w ≤ 64) (hn : (c * w + 7) / 8 = n) (hs : b + 1 + n ≤ s.size) (hr : ¬ num (pk s b n) < 2 ^ (c * w)) : getB s p c = ([], 0, 2) := by
  subst hw; subst hn
  unfold getB; rw [hg, if_neg (by simp), if_neg (by simp only; omega), if_neg (by simp only [Int.toNat_natCast]; omega), if_neg (by simp only [Int.toNat_natCast]; omega), if_pos (by simp only [Int.toNat_natCast]; exact hr)]
theorem getB_off {u : List Nat} (hg : getR s p = (a, (b : Int), 0)) (hb : b < s.size) (hw : bN s b = w) (h : w ≤ 64) (hn : (c * w + 7) / 8 = n) (hs : b + 1 + n ≤ s.size) (hr : num (pk s b n) < 2 ^ (c * w)) (hu : digs w c (num (pk s b n)) = u) (ho : ¬ okO u w (zagN a)) : getB s p c = ([], 0, 2) := by
  subst hw; subst hn; subst hu
  unfold getB; rw [hg, if_neg (by simp), if_neg (by simp only; omega), if_neg (by simp only [Int.toNat_natCast]; omega), if_neg (by simp only [Int.toNat_natCast]; omega), if_neg (by simp only [Int.toNat_natCast]; exact fun e => e hr), if_neg (by simp only [Int.toNat_natCast]; exact ho)]
theorem getB_ok {u : List Nat} (hg : getR s p = (a, (b : Int), 0)) (hb : b < s.size) (hw : bN s b = w) (h : w ≤ 64) (hn : (c * w + 7) / 8 = n) (hs : b + 1 + n ≤ s.size) (hr : num (pk s b n) < 2 ^ (c * w)) (hu : digs w c (num (pk s b n)) = u) (ho : okO u w (zagN a)) : getB s p c = (u.map (fun o : Nat => zagN a + o), b + 1 + n, 0) := by
  subst hw; subst hn; subst hu
  unfold getB; rw [hg, if_neg (by simp), if_neg (by simp only; omega), if_neg (by simp only [Int.toNat_natCast]; omega), if_neg (by simp only [Int.toNat_natCast]; omega), if_neg (by simp only [Int.toNat_natCast]; exact fun e => e hr), if_pos (by simp only [Int.toNat_natCast]; exact ho)]
  rfl
end
theorem pk_size {s : ByteArray} {b n : Nat} (h : b + 1 + n ≤ s.size) : (pk s b n).size = n := by unfold pk; rw [ByteArray.size_extract]; omega
/-- The list with its next elements. -/
def acc (l d : List Int) : List Int := d.foldl (fun l x => l ++ [wrap64 (l.getLastD 0 + x)]) l
theorem acc_nil (l : List Int) : acc l [] = l := rfl
theorem acc_snoc (l : List Int) {d : List Int} {j : Nat} {x : Int} (hx : d[j]? = some x) : acc l (d.take (j + 1)) = acc l (d.take j) ++ [wrap64 ((acc l (d.take j)).getLastD 0 + x)] := fold_snoc _ l hx
theorem acc_app (l a b : List Int) : acc l (a ++ b) = acc (acc l a) b := List.foldl_append
theorem acc_len : ∀ (d l : List Int), (acc l d).length = l.length + d.length
  | [], l => rfl
  | x :: d, l => by
    show (acc (l ++ [wrap64 (l.getLastD 0 + x)]) d).length = _
    rw [acc_len d, List.length_append, List.length_cons]; simp; omega
theorem acc_df : ∀ (r l : List Int) (x : Int), l.getLast? = some x → I64 (x :: r) → acc l (df (x :: r)) = l ++ r
  | [], l, x, _, _ => by rw [df, acc_nil, List.append_nil]
  | y :: r, l, x, hl, hi => by
    have e : l.getLastD 0 = x := by rw [List.getLastD_eq_getLast?, hl]; rfl
    have hy := hi.tail.head
    have e2 : wrap64 (x + wrap64 (y - x)) = y := by unfold wrap64; omega
    show acc (l ++ [wrap64 (l.getLastD 0 + wrap64 (y - x))]) (df (y :: r)) = _
    rw [e, e2, acc_df r (l ++ [y]) y (by simp) hi.tail, List.append_assoc]; rfl
/-- What Decode finds from place p on, with m elements to come behind the elements l. -/
def decB (s : ByteArray) (m : Nat) (p : Int) (l : List Int) : List Int × Nat :=
  if m = 0 then (if p < s.size then ([], 2) else (l, 0))
  else if (getB s p (min m 32)).2.2 ≠ 0 then ([], (getB s p (min m 32)).2.2)
  else decB s (m - min m 32) (getB s p (min m 32)).2.1 (acc l (getB s p (min m 32)).1)
termination_by m
decreasing_by omega
section
variable {s : ByteArray} {m : Nat} {p : Int} {l : List Int}
theorem decB_left (h : m = 0) (hp : p < s.size) : decB s m p l = ([], 2) := by rw [decB, if_pos h, if_pos hp]
theorem decB_done (h : m = 0) (hp : ¬ p < s.size) : decB s m p l = (l, 0) := by rw [decB, if_pos h, if_neg hp]
theorem decB_e {c : Nat} {d : List Int} {q e : Nat} (h : m ≠ 0) (hc : min m 32 = c) (hg : getB s p c = (d, q, e)) (he : e ≠ 0) : decB s m p l = ([], e) := by subst hc; rw [decB, if_neg h, hg, if_pos he]
theorem decB_go {c : Nat} {d : List Int} {q : Nat} (h : m ≠ 0) (hc : min m 32 = c) (hg : getB s p c = (d, q, 0)) : decB s m p l = decB s (m - c) q (acc l d) := by subst hc; rw [decB, if_neg h, hg, if_neg (by simp)]
end
/-- What Decode finds. -/
def decX (s : ByteArray) (n : Int) : List Int × Nat :=
  if n < 0 ∨ 4096 < n then ([], 4) else if n = 0 then (if s.size = 0 then ([], 0) else ([], 2))
  else if (getR s 0).2.2 ≠ 0 then ([], (getR s 0).2.2) else decB s (n.toNat - 1) (getR s 0).2.1 [zagN (getR s 0).1]
theorem decX_out {s : ByteArray} {n : Int} (h : n < 0 ∨ 4096 < n) : decX s n = ([], 4) := by unfold decX; rw [if_pos h]
theorem decX_nil {s : ByteArray} (h : s.size = 0) : decX s 0 = ([], 0) := by unfold decX; rw [if_neg (by omega), if_pos rfl, if_pos h]
theorem decX_some {s : ByteArray} (h : s.size ≠ 0) : decX s 0 = ([], 2) := by unfold decX; rw [if_neg (by omega), if_pos rfl, if_neg h]
theorem decX_e {s : ByteArray} {n a e : Nat} {b : Int} (hn : n ≤ 4096) (h0 : n ≠ 0) (hg : getR s 0 = (a, b, e)) (he : e ≠ 0) : decX s n = ([], e) := by
  unfold decX; rw [if_neg (by omega), if_neg (by omega), hg, if_pos he]
theorem decX_go {s : ByteArray} {n a : Nat} {b : Int} (hn : n ≤ 4096) (h0 : n ≠ 0) (hg : getR s 0 = (a, b, 0)) : decX s n = decB s (n - 1) b [zagN a] := by
  unfold decX; rw [if_neg (by omega), if_neg (by omega), hg, if_neg (by simp), Int.toNat_natCast]

/-! what was encoded is read again -/
theorem off_map {m : Int} {d : List Int} (h : ∀ x ∈ d, m ≤ x) : (off m d).map (fun o : Nat => m + o) = d := by
  unfold off
  rw [List.map_map]
  refine (List.map_congr_left fun x hx => ?_).trans (List.map_id d)
  have := h x hx
  simp only [Function.comp_def, id]
  omega
theorem ok_offs {d : List Int} (h : I64 d) (hd : d ≠ []) : okO (offs d) (wd d) (lst d) := by
  refine ⟨(lo_zero (offs_ne hd)).2 ?_, rfl, ?_⟩
  · have := lst_in hd
    unfold offs off
    rw [List.mem_map]
    exact ⟨_, this, by omega⟩
  · have hg := gr_in (offs_ne hd)
    generalize gr (offs d) = g at hg
    unfold offs off at hg
    rw [List.mem_map] at hg
    obtain ⟨x, hx, rfl⟩ := hg
    have h1 := lst_le hx
    have h2 := h x hx
    omega
theorem getB_blk {s : ByteArray} {pre rest : List UInt8} {d : List Int} (hi : I64 d) (hd : d ≠ []) (hl : d.length ≤ 4096) (hs : s.data.toList = pre ++ (blk d ++ rest)) :
    getB s ((pre.length : Nat) : Int) d.length = (d, (pre ++ blk d).length, 0) := by
  have hm := lst_bd hi hd
  have hz := zig_bd hm.1 hm.2
  have hw := wd_le hi hd
  have hs2 : s.data.toList = pre ++ putL (zigN (lst d)).toNat ++ (UInt8.ofNat (wd d) :: (packed (offs d) (wd d) ++ rest)) := by
    rw [hs]; unfold blk; simp only [List.append_assoc, List.cons_append, List.nil_append]
  have hg := getR_put (s := s) (a := pre) (r := UInt8.ofNat (wd d) :: (packed (offs d) (wd d) ++ rest)) (zig_lt hm) hs2
  generalize hb : (pre ++ putL (zigN (lst d)).toNat).length = b at hg
  have hpl := packed_len (offs d) (wd d)
  rw [offs_len] at hpl
  have hsz : s.size = b + 1 + (d.length * wd d + 7) / 8 + rest.length := by
    rw [← size_list, hs2, List.length_append, hb, List.length_cons, List.length_append, hpl]; omega
  have hbn : bN s b = wd d := by
    unfold bN
    rw [hs2, ← hb, List.getD_eq_getElem?_getD, List.getElem?_append_right (Nat.le_refl _), Nat.sub_self]
    exact Nat.mod_eq_of_lt (by omega : wd d < 256)
  have hpk : pk s b ((d.length * wd d + 7) / 8) = str (packed (offs d) (wd d)) := by
    unfold pk
    rw [extract_str, hs2, ← hb]
    congr 1
    rw [show (pre ++ putL (zigN (lst d)).toNat).length + 1 = (pre ++ putL (zigN (lst d)).toNat).length + (1 : Nat) from rfl, List.drop_append, List.drop_eq_nil_of_le (by omega), List.nil_append]
    rw [show (pre ++ putL (zigN (lst d)).toNat).length + 1 - (pre ++ putL (zigN (lst d)).toNat).length = 1 from by omega, List.drop_succ_cons, List.drop_zero]
    rw [show (pre ++ putL (zigN (lst d)).toNat).length + 1 + (d.length * wd d + 7) / 8 - ((pre ++ putL (zigN (lst d)).toNat).length + 1) = (packed (offs d) (wd d)).length from by rw [hpl]; omega, List.take_left]
  have hrt := round_trip (l := offs d) hw (by rw [offs_len]; exact hl) (offs_wd d)
  have hN : num (str (packed (offs d) (wd d))) < 2 ^ (d.length * wd d) ∧ digs (wd d) d.length (num (str (packed (offs d) (wd d)))) = offs d := by
    rw [offs_len] at hrt
    by_cases hn : num (str (packed (offs d) (wd d))) < 2 ^ (d.length * wd d)
    · rw [unpackR_ok hl hw (by rw [str_size, hpl]) hn] at hrt
      exact ⟨hn, (Prod.mk.inj hrt).1⟩
    · rw [unpackR_rest hl hw (by rw [str_size, hpl]) hn] at hrt
      exact absurd (Prod.mk.inj hrt).2 (by simp)
  have ez : zagN (((zigN (lst d)).toNat : Nat) : Int) = lst d := by rw [Int.toNat_of_nonneg hz.1, zag_zig]
  rw [getB_ok (u := offs d) hg (by omega) hbn hw rfl (by omega) (by rw [hpk]; exact hN.1) (by rw [hpk]; exact hN.2) (by rw [ez]; exact ok_offs hi hd), ez]
  refine Prod.mk.injEq .. ▸ ⟨off_map (fun x hx => lst_le hx), ?_⟩
  refine Prod.mk.injEq .. ▸ ⟨?_, rfl⟩
  unfold blk
  rw [← hb]
  simp only [List.length_append, List.length_cons, List.length_nil, hpl]
  omega
theorem decB_enc (s : ByteArray) : ∀ (k : Nat) (d l : List Int) (pre : List UInt8), d.length ≤ k → I64 d → s.data.toList = pre ++ encB d → decB s d.length (pre.length : Nat) l = (acc l d, 0) := by
  intro k
  induction k with
  | zero =>
    intro d l pre hk _ hs
    have : d = [] := List.eq_nil_of_length_eq_zero (by omega)
    subst this
    rw [encB_nil, List.append_nil] at hs
    rw [show ([] : List Int).length = 0 from rfl, decB_done rfl (by rw [← size_list, hs]; omega), acc_nil]
  | succ k ih =>
    intro d l pre hk hi hs
    by_cases h : d = []
    · subst h; exact ih [] l pre (by simp) hi hs
    · have hl : 0 < d.length := List.length_pos_iff.2 h
      rw [encB_go h] at hs
      have hc : min d.length 32 = (d.take 32).length := by rw [List.length_take]; omega
      have hg := getB_blk (i64_take hi 32) (take_ne h) (by rw [List.length_take]; omega) hs
      rw [decB_go (by omega) hc hg]
      have hd : d.length - (d.take 32).length = (d.drop 32).length := by rw [List.length_take, List.length_drop]; omega
      rw [hd, ih (d.drop 32) _ (pre ++ blk (d.take 32)) (by rw [List.length_drop]; omega) (hi.drop 32) (by rw [hs, List.append_assoc]), ← acc_app, List.take_append_drop]
theorem decX_enc {l : List Int} (h : l.length ≤ 4096) (hi : I64 l) : decX (str (encX l)) (l.length : Nat) = (l, 0) := by
  cases l with
  | nil => exact decX_nil rfl
  | cons x r =>
    rw [encX_in h]
    have hz := zig_bd hi.head.1 hi.head.2
    have hs : (str (putL (zigN x).toNat ++ encB (df (x :: r)))).data.toList = [] ++ putL (zigN x).toNat ++ encB (df (x :: r)) := rfl
    have hg := getR_put (zig_lt hi.head) hs
    have ez : zagN (((zigN x).toNat : Nat) : Int) = x := by rw [Int.toNat_of_nonneg hz.1, zag_zig]
    rw [decX_go h (by simp) hg, ez]
    have hd : (x :: r).length - 1 = (df (x :: r)).length := (df_len _).symm
    rw [hd, List.nil_append, decB_enc _ _ (df (x :: r)) [x] (putL (zigN x).toNat) (Nat.le_refl _) (df_i64 _) rfl, acc_df r [x] x rfl hi]
    rfl

/-! equal differences -/
theorem fold_rep (v : Int) : ∀ k, (List.replicate k v).foldl min v = v
  | 0 => rfl
  | k + 1 => by rw [List.replicate_succ, List.foldl_cons, Int.min_self]; exact fold_rep v k
theorem lst_rep (v : Int) (k : Nat) (hk : 0 < k) : lst (List.replicate k v) = v := by
  obtain ⟨j, rfl⟩ : ∃ j, k = j + 1 := ⟨k - 1, by omega⟩
  exact fold_rep v (j + 1)
theorem blk_rep {v : Int} {k : Nat} (hk : 0 < k) (hv : -9223372036854775808 ≤ v ∧ v ≤ 9223372036854775807) : (blk (List.replicate k v)).length ≤ 11 := by
  have h1 := putL_len10 (zig_lt hv)
  have ho : offs (List.replicate k v) = List.replicate k 0 := by unfold offs off; rw [lst_rep v k hk, List.map_replicate]; simp
  have hw : wd (List.replicate k v) = 0 := by
    unfold wd
    have hg : gr (List.replicate k 0) = 0 := by
      have := gr_in (u := List.replicate k 0) (by rw [Ne, List.replicate_eq_nil_iff]; omega)
      exact List.eq_of_mem_replicate this
    rw [ho, hg, wid_zero]
  unfold blk
  rw [List.length_append, List.length_append, packed_len, offs_len, hw, lst_rep v k hk]
  simp only [List.length_cons, List.length_nil]
  omega
theorem encB_rep {v : Int} (hv : -9223372036854775808 ≤ v ∧ v ≤ 9223372036854775807) : ∀ (n k : Nat), k ≤ n → (encB (List.replicate k v)).length ≤ 11 * ((k + 31) / 32) := by
  intro n
  induction n with
  | zero =>
    intro k hk
    obtain rfl : k = 0 := by omega
    rw [List.replicate_zero, encB_nil]; simp
  | succ n ih =>
    intro k hk
    by_cases h : k = 0
    · subst h; rw [List.replicate_zero, encB_nil]; simp
    · rw [encB_go (by rw [Ne, List.replicate_eq_nil_iff]; exact h), List.length_append, List.take_replicate, List.drop_replicate]
      have h1 := blk_rep (v := v) (k := min 32 k) (by omega) hv
      have h2 := ih (k - 32) (by omega)
      omega
/-- The list of n numbers from v on with equal steps. -/
def stp (t : Int) : Nat → Int → List Int
  | 0, _ => []
  | n + 1, v => v :: stp t n (wrap64 (v + t))
theorem stp_len (t : Int) : ∀ n v, (stp t n v).length = n
  | 0, _ => rfl
  | n + 1, v => by rw [stp, List.length_cons, stp_len t n]
theorem stp_i64 (t : Int) : ∀ n v, (-9223372036854775808 ≤ v ∧ v ≤ 9223372036854775807) → I64 (stp t n v)
  | 0, _, _, z, hz => by simp [stp] at hz
  | n + 1, v, hv, z, hz => by
    rw [stp] at hz
    rcases List.mem_cons.1 hz with h | h
    · rw [h]; exact hv
    · exact stp_i64 t n _ (wrap_bd _) z h
theorem stp_df (t : Int) (ht : -9223372036854775808 ≤ t ∧ t ≤ 9223372036854775807) : ∀ n v, df (stp t (n + 1) v) = List.replicate n t
  | 0, _ => rfl
  | n + 1, v => by
    have ih := stp_df t ht n (wrap64 (v + t))
    rw [stp, stp, df]
    rw [stp] at ih
    rw [ih, List.replicate_succ]
    congr 1
    unfold wrap64; omega
/-- Its number n. -/
def nth (t : Int) : Nat → Int → Int
  | 0, v => v
  | n + 1, v => nth t n (wrap64 (v + t))
theorem nth_succ (t : Int) : ∀ n v, nth t (n + 1) v = wrap64 (nth t n v + t)
  | 0, _ => rfl
  | n + 1, v => nth_succ t n (wrap64 (v + t))
theorem nth_bd (t : Int) : ∀ n v, (-9223372036854775808 ≤ v ∧ v ≤ 9223372036854775807) → -9223372036854775808 ≤ nth t n v ∧ nth t n v ≤ 9223372036854775807
  | 0, _, h => h
  | n + 1, _, _ => nth_bd t n _ (wrap_bd _)
theorem stp_snoc (t : Int) : ∀ n v, stp t (n + 1) v = stp t n v ++ [nth t n v]
  | 0, _ => rfl
  | n + 1, v => by
    rw [stp, stp_snoc t n, stp, List.cons_append]
    rfl
theorem stp_enc {t v : Int} {n : Nat} (hn : n + 1 ≤ 4096) (ht : -9223372036854775808 ≤ t ∧ t ≤ 9223372036854775807) (hv : -9223372036854775808 ≤ v ∧ v ≤ 9223372036854775807) : (encX (stp t (n + 1) v)).length ≤ 10 + 11 * ((n + 31) / 32) := by
  have h1 := putL_len10 (zig_lt hv)
  have h2 := encB_rep ht n n (Nat.le_refl _)
  have e := stp_df t ht n v
  have hl := stp_len t (n + 1) v
  rw [stp] at e hl ⊢
  rw [encX_in (by omega), e, List.length_append]
  omega
end Go.DL

/- The walks over package delta: numbers with sign, the differences of a list. -/
namespace Go.VB
open Go.RowKit
section
variable {α : Type} {f : α → Value} {e : TypeId} {w w' : World} {l m : List α} {base g c : Nat}
/-- It returns a list of its own, at its array's head and without room behind it; what was there is as it was. -/
def RetG (f : α → Value) (e : TypeId) (l : List α) (w : World) : Ending → World → Prop := fun en w' =>
  ∃ g, en = .returned (.slice (some ⟨g, 0, none⟩) l.length l.length) ∧ RowV f e w' w.heap.size g l.length l ∧ Below w.heap.size w w'
theorem RetG.mk {x : Value} (hx : x = .slice (some ⟨g, 0, none⟩) l.length l.length) (ho : RowV f e w' w.heap.size g l.length l) (hb : Below w.heap.size w w') : RetG f e l w (.returned x) w' := ⟨g, by rw [hx], ho, hb⟩
/-- A part of a row, from place k on. -/
theorem RowV.part (h : RowV f e w base g c l) {k cc : Nat} (hm : ∀ i x, m[i]? = some x → l[k + i]? = some x) (h1 : m.length ≤ cc) (h2 : cc ≤ maxLen) : RdV f w w.heap.size (.slice (some ⟨g, k, none⟩) m.length cc) m := by
  refine ⟨_, cc, rfl, h1, h2, fun i x hx => ⟨_, rfl, h.lt.2, ?_⟩⟩
  rw [Addr.add_lit]
  exact h.cell _ _ (hm i x hx)
theorem RowV.keep {row : Option Nat} (h : RowV f e w base g c l) (hg : w.grownBy w' row) (hne : row ≠ some g) : RowV f e w' base g c l :=
  World.ownsRow.kept h hg (.inr (by simp only [Value.ownBlock]; exact fun e => hne e.symm))
end
end Go.VB
namespace Go.Proofs.YtbolbbngncnecaaGreat
open Go.RowKit Go.VB Go.VarM Go.BP Go.RL Go.DL
set_option maxHeartbeats 400000 in
theorem putsig_any (x : Int) (w : World) (hx : -9223372036854775808 ≤ x ∧ x ≤ 9223372036854775807) :
    Calls Tryz.prog 102 #[.int .i64 x] w (RetB (.string (str (putL (zigN x).toNat))) w) := by
  obtain ⟨z, hz1, hz2, hz3⟩ := zig_nat hx
  have HZ := fun w => vzig_any x w hx.1 hx.2
  rw [hz1] at HZ
  rw [hz2]
  have HZZ := fun w => Lib.hid (HZ w)
  have HP := fun w => Lib.hid (vput_any z w hz3)
  clear HZ hz1 hz2
  go_enter Tryz.func102, Tryz.ntmps102
  go_wp2_with (first
    | (go_at_call 99; (with_reducible refine (HZZ _).out.mono ?_); rintro e w' ⟨rfl, rfl⟩)
    | (go_at_call 52; (with_reducible refine (HP _).out.mono ?_); rintro e w3 ⟨rfl, hb⟩))
  go_ret
  exact RetB.mk rfl hb
set_option maxHeartbeats 400000 in
theorem getsig_e (s : ByteArray) (p : Int) (w : World) (hs : s.size ≤ maxLen) {a : Nat} {b : Int} {c : Nat} (hg : getR s p = (a, b, c)) (hc : c ≠ 0) :
    Calls Tryz.prog 114 #[.string s, .int .i64 p] w (Ret (.tuple #[.int .i64 0, .int .i64 0, .int .i64 (c : Int)]) w) := by
  have HG := Lib.hid (vget_is s p w hs hg)
  have hd : ((c : Int) != 0) = true := by simp; omega
  clear hg hc
  go_enter Tryz.func114, Tryz.ntmps114
  go_wp2_with (go_at_call 82; (with_reducible refine HG.out.mono ?_); rintro e w' ⟨rfl, rfl⟩)
  go_ret3
  exact Ret.mk rfl
set_option maxHeartbeats 400000 in
theorem getsig_ok (s : ByteArray) (p : Int) (w : World) (hs : s.size ≤ maxLen) {a : Nat} {b : Int} (hg : getR s p = (a, b, 0)) :
    Calls Tryz.prog 114 #[.string s, .int .i64 p] w (Ret (.tuple #[.int .i64 (zagN a), .int .i64 b, .int .i64 0]) w) := by
  have HG := Lib.hid (vget_ok s p w hs hg)
  have hz : a < 18446744073709551616 := by
    obtain ⟨_, _, _, _, _, _, _, h⟩ := getR_zero hg; exact h
  have HZ := Lib.hid (vzag_any a w (by omega) (by omega))
  clear hg hz
  go_enter Tryz.func114, Tryz.ntmps114
  go_wp2_with (first
    | (go_at_call 82; (with_reducible refine HG.out.mono ?_); rintro e w' ⟨rfl, rfl⟩)
    | (go_at_call 123; (with_reducible refine HZ.out.mono ?_); rintro e w' ⟨rfl, rfl⟩))
  go_ret3
  exact Ret.mk rfl
set_option maxRecDepth 100000 in
set_option maxHeartbeats 1000000 in
theorem lag_any (v : Value) (u : List Nat) (B : Nat) (w : World) (hr : RdN .u64 w B v u) (hB : B ≤ w.heap.size) (h0 : 0 < u.length) (h64 : ∀ x ∈ u, x < 18446744073709551616) :
    Calls Tryz.prog 121 #[v] w (RetB (.tuple #[.int .u64 (lo u : Nat), .int .u64 (gr u : Nat)]) w) := by
  obtain ⟨A, c, rfl, hc1, hc2, hr'⟩ := hr
  have hr : RdN .u64 w B (.slice A u.length c) u := ⟨A, c, rfl, hc1, hc2, hr'⟩
  unfold maxLen at hc2
  obtain ⟨ad, rfl, hab, hg0⟩ := hr' 0 h0
  rw [addr_zero] at hg0
  have hh : u.getD 0 0 = u.headD 0 := by cases u <;> rfl
  rw [hh] at hg0
  have hl : u.foldl min (u.headD 0) = lo u := rfl
  have hm : u.foldl max (u.headD 0) = gr u := rfl
  generalize u.headD 0 = q at *
  generalize lo u = L at *
  generalize gr u = G at *
  clear hr' hh
  have HR := Lib.hid hr; have HL := Lib.hid hl; have HM := Lib.hid hm; have H64 := Lib.hid h64
  clear hr hl hm h64
  go_enter Tryz.func121, Tryz.ntmps121
  go_wp2_with fail
  go_region
  go_wp2_with fail
  go_loopw [4, 5, 16] (fun a b i wr => ∃ (x y j : Nat), a = .int .u64 x ∧ b = .int .u64 y ∧ i = .int .i64 j ∧ j ≤ u.length ∧ (u.take j).foldl min q = x ∧ (u.take j).foldl max q = y ∧ Below w.heap.size w wr) (fun _ _ i _ => u.length - (intOf i).toNat)
  case atStart => exact ⟨q, q, 0, rfl, rfl, rfl, Nat.zero_le _, rfl, rfl, (Below.refl _ _).drew⟩
  case round =>
    clear hg0
    obtain ⟨x, y, j, rfl, rfl, rfl, hj, hx, hy, hbel⟩ := hrel
    have HX := Lib.hid hx; have HY := Lib.hid hy
    clear hx hy
    by_cases hlt : j < u.length
    · obtain ⟨_, _, hv1, _, _, hcx⟩ := HR.out.below (hbel.mono hB)
      cases hv1
      obtain ⟨ad', e1, _, hgx⟩ := hcx j hlt
      cases e1
      have hlj : u[j]? = some (u.getD j 0) := by rw [List.getD_eq_getElem?_getD, List.getElem?_eq_getElem hlt]; rfl
      have HS1 := Lib.hid (fold_snoc min q hlj)
      have HS2 := Lib.hid (fold_snoc max q hlj)
      clear hcx hlj
      generalize u.getD j 0 = V at *
      go_wp2_with fail
      go_roundw
      case rel => exact ⟨min x V, max y V, j + 1, vint (by split <;> omega), vint (by split <;> omega), by go_num, hlt, by rw [HS1.out, HX.out], by rw [HS2.out, HY.out], hbel⟩
      case measure => simp [intOf] <;> omega
    · have hx : x = L := by rw [← HX.out, ← HL.out, List.take_of_length_le (by omega)]
      have hy : y = G := by rw [← HY.out, ← HM.out, List.take_of_length_le (by omega)]
      subst hx; subst hy
      go_wp2
      go_ret2
      exact RetB.mk rfl hbel
theorem add_up (a : Addr) (j : Nat) : a.add (j + 1) = ⟨a.block, a.off + (j + 1), none⟩ := by unfold Addr.add; rw [if_neg (by omega)]
set_option maxRecDepth 100000 in
set_option maxHeartbeats 2000000 in
theorem diffs_any (v : Value) (l : List Int) (B : Nat) (w : World) (hr : RdV (Value.int .i64) w B v l) (hB : B ≤ w.heap.size) (h0 : 0 < l.length) (hl : l.length ≤ 4096) :
    Calls Tryz.prog 103 #[v] w (RetG (Value.int .i64) 2 (df l) w) := by
  obtain ⟨A, c, rfl, hc1, hc2, hr'⟩ := hr
  have hr : RdV (Value.int .i64) w B (.slice A l.length c) l := ⟨A, c, rfl, hc1, hc2, hr'⟩
  clear hr'
  unfold maxLen at hc2
  obtain ⟨n, hn⟩ : ∃ n, l.length = n + 1 := ⟨l.length - 1, by omega⟩
  have hdl : (df l).length = n := by rw [df_len, hn]; omega
  have hn' : (l.length : Int) - 1 = (n : Int) := by omega
  have hmk := run_makeV (P := Tryz.prog) (t := 70) (z := .int .i64 0) rfl Tryz.underlying70 Tryz.infI64 n (by omega) (by unfold maxLen; omega) w
  have hrow := RowV.made (Value.int .i64) 0 2 w w.heap.size n (Nat.le_refl _) (by unfold maxLen; omega)
  have hb2 := (Below.refl w.heap.size w).alloc (Nat.le_refl _) (.cells (madeCells #[.int .i64 0] n) 2)
  generalize w.alloc (.cells (madeCells #[.int .i64 0] n) 2) = w1 at hmk hrow hb2
  have HR := Lib.hid hr; have HN := Lib.hid hn; have HDL := Lib.hid hdl
  clear hr hdl
  go_enter Tryz.func103, Tryz.ntmps103
  go_wp2_with fail
  go_loopw [11] (fun i wr => ∃ (j : Nat) (L : List Int), i = .int .i64 j ∧ j ≤ n ∧ RowV (Value.int .i64) 2 wr w.heap.size w.heap.size n L ∧ L = (df l).take j ++ List.replicate (n - j) 0 ∧ Below w.heap.size w wr) (fun i _ => n - (intOf i).toNat)
  case atStart => exact ⟨0, _, rfl, Nat.zero_le _, hrow, fill_start (df l) n 0, hb2⟩
  case round =>
    clear hrow hb2 hmk
    obtain ⟨j, L, rfl, hj, hrow, hL, hbel⟩ := hrel
    have HL := Lib.hid hL; clear hL
    by_cases hjl : j < n
    · have hlj : l[j]? = some (l[j]'(by omega)) := List.getElem?_eq_getElem _
      have hlk : l[j + 1]? = some (l[j + 1]'(by omega)) := List.getElem?_eq_getElem _
      have hrd := HR.out.below (hbel.mono hB)
      obtain ⟨_, _, hv1, _, _, hcx⟩ := hrd
      cases hv1
      obtain ⟨ad, rfl, _, hgx⟩ := hcx _ _ hlj
      obtain ⟨_, e1, _, hgy⟩ := hcx _ _ hlk
      cases e1
      have hdf := df_at hlj hlk
      rw [add_up ad j] at hgy
      have HSE := Lib.hid (fill_set (z := 0) HDL.out hjl hdf)
      clear hcx hlj hlk
      generalize l[j]'_ = x at *
      generalize l[j + 1]'_ = y at *
      have hst : RowV (Value.int .i64) 2 (wr.setCell ⟨w.heap.size, j, none⟩ (.int .i64 (wrap64 (y - x)))) w.heap.size w.heap.size n (L.set j (wrap64 (y - x))) := hrow.store j (wrap64 (y - x))
      have hfr := hrow.frozen j
      have hlL : L.length = n := by rw [HL.out]; exact fill_len HDL.out hj
      have hLj : L[j]? = some (L[j]'(by omega)) := List.getElem?_eq_getElem _
      have hcl := hrow.cell j _ hLj
      generalize L[j]'_ = old at hcl
      have hbel2 : Below w.heap.size w (wr.setCell ⟨w.heap.size, j, none⟩ (.int .i64 (wrap64 (y - x)))) := hbel.setCell (p := ⟨w.heap.size, j, none⟩) (Nat.le_refl _) _
      have HST := Lib.hid hst; have HBE := Lib.hid hbel2
      clear hLj hst hbel2 hdf
      go_wp2_with fail
      go_region
      go_wp2_with fail
      go_roundw
      case rel => exact ⟨j + 1, L.set j (wrap64 (y - x)), by go_num, hjl, HST.out, by rw [HL.out]; exact HSE.out, HBE.out.drew⟩
      case measure => simp [intOf] <;> omega
    · have hjn : j = n := by omega
      have hfin : L = df l := by rw [HL.out, hjn]; exact fill_end HDL.out
      subst hfin
      go_wp2
      go_ret
      have hdl := HDL.out
      exact RetG.mk (g := w.heap.size) (by rw [hdl]; rfl) (by rw [hdl]; exact hrow) hbel
end Go.Proofs.YtbolbbngncnecaaGreat

/- The walks over package delta: the bytes of a block. -/
namespace Go.DL
open Go.RowKit Go.VB Go.VarM Go.BP
theorem offs_at {d : List Int} {i : Nat} {x : Int} (h : d[i]? = some x) : (offs d)[i]? = some (x - lst d).toNat := off_at h
theorem run_add_parts {P : Program} (a b : List UInt8) (h : a.length + b.length ≤ 4611686018427387904) (w : World) : (Op.stringOp .add (str a) (str b)).run P w = .ok (.string (str (a ++ b))) w := by
  rw [run_string_add_sum w (str a) (str b) (by rw [str_size, str_size]; omega), str_append]
end Go.DL
namespace Go.Proofs.YtbolbbngncnecaaGreat
open Go.RowKit Go.VB Go.VarM Go.BP Go.RL Go.DL
set_option maxRecDepth 100000 in
set_option maxHeartbeats 4000000 in
theorem putblock_any (v : Value) (d : List Int) (B : Nat) (w : World) (hr : RdV (Value.int .i64) w B v d) (hB : B ≤ w.heap.size) (h0 : 0 < d.length) (hl : d.length ≤ 32) (hi : I64 d) :
    Calls Tryz.prog 104 #[v] w (RetB (.string (str (blk d))) w) := by
  obtain ⟨A, c, rfl, hc1, hc2, hr'⟩ := hr
  have hr : RdV (Value.int .i64) w B (.slice A d.length c) d := ⟨A, c, rfl, hc1, hc2, hr'⟩
  unfold maxLen at hc2
  have hne : d ≠ [] := List.ne_nil_of_length_pos h0
  obtain ⟨q, hq⟩ : ∃ q, d[0]? = some q := ⟨_, List.getElem?_eq_getElem h0⟩
  obtain ⟨ad, rfl, hab, hg0⟩ := hr' 0 q hq
  rw [addr_zero] at hg0
  have hhd : d.headD 0 = q := by cases d <;> simp_all
  have hlm : d.foldl min q = lst d := by rw [← hhd]; rfl
  have hmb := lst_bd hi hne
  have hol := offs_len d
  have hone := offs_ne hne
  have ho64 := offs_lt hi hne
  have hwl := wd_le hi hne
  have hpk := packR_ok (l := offs d) hwl (by rw [hol]; omega) (offs_wd d)
  have hwg : wid (gr (offs d)) = wd d := rfl
  have hg64 := ho64 _ (gr_in hone)
  have HOA := fun {i x} (h : d[i]? = some x) => offs_at h
  have hpl := packed_len (offs d) (wd d)
  have h8 := need8 (c := d.length) hwl
  rw [hol] at hpl
  have HLX := fun {x} (h : x ∈ d) => lst_le h
  have hT : putL (zigN (lst d)).toNat ++ [UInt8.ofNat (wd d)] ++ packed (offs d) (wd d) = blk d := rfl
  have hput := putL_len10 (zig_lt hmb)
  generalize hO : offs d = O at *
  generalize hM : lst d = M at *
  generalize hW : wd d = D at *
  generalize hBK : blk d = T at *
  have HPS := fun w' => Lib.hid (putsig_any M w' hmb)
  have HMK := fun w' => Lib.hid (run_makeN (P := Tryz.prog) Tryz.underlying94 Tryz.infoU64 d.length (by omega) (by unfold maxLen; omega) w')
  have HR := Lib.hid hr; have HLM := Lib.hid hlm; have HOA' := fun i x h => Lib.hid (@HOA i x h); have HI := Lib.hid hi
  have HPK := Lib.hid hpk; have HWG := Lib.hid hwg; have HO64 := Lib.hid ho64
  have HT := Lib.hid hT; have HPL := Lib.hid hpl; have HOL := Lib.hid hol; have HLY := fun x h => Lib.hid (@HLX x h); have HONE := Lib.hid hone
  clear HLX hr' hr hlm HOA hi hpk hwg ho64 hT hpl hol hone hO hM hW hBK
  go_enter Tryz.func104, Tryz.ntmps104
  go_wp2_with fail
  go_loopw [3, 19] (fun a i wr => ∃ (x : Int) (j : Nat), a = .int .i64 x ∧ i = .int .i64 j ∧ j ≤ d.length ∧ (d.take j).foldl min q = x ∧ Below w.heap.size w wr) (fun _ i _ => d.length - (intOf i).toNat)
  case atStart => exact ⟨q, 0, rfl, rfl, Nat.zero_le _, rfl, Below.refl _ _⟩
  case round =>
    clear hg0
    obtain ⟨x, j, rfl, rfl, hj, hx, hbel⟩ := hrel
    have HX := Lib.hid hx
    clear hx
    by_cases hlt : j < d.length
    · have hlj : d[j]? = some (d[j]'hlt) := List.getElem?_eq_getElem _
      obtain ⟨_, _, hv1, _, _, hcx⟩ := HR.out.below (hbel.mono hB)
      cases hv1
      obtain ⟨ad', e1, _, hgx⟩ := hcx j _ hlj
      cases e1
      have HS1 := Lib.hid (fold_snoc min q hlj)
      clear hcx hlj
      generalize d[j]'hlt = V at *
      go_wp2_with fail
      go_roundw
      case rel => exact ⟨min x V, j + 1, vint (by split <;> omega), by go_num, hlt, by rw [HS1.out, HX.out], hbel⟩
      case measure => simp [intOf] <;> omega
    · have hx : x = M := by rw [← HX.out, ← HLM.out, List.take_of_length_le (by omega)]
      subst hx
      obtain ⟨wo, hwo⟩ : ∃ wo, wo = wr := ⟨wr, rfl⟩
      subst hwo
      have hmk := (HMK wo).out
      have hrow := RowN.made .u64 47 wo wo.heap.size d.length (Nat.le_refl _) (by unfold maxLen; omega)
      have hb2 := (Below.refl wo.heap.size wo).alloc (Nat.le_refl _) (.cells (madeCells #[.int .u64 0] d.length) 47)
      generalize wo.alloc (.cells (madeCells #[.int .u64 0] d.length) 47) = w1 at hmk hrow hb2
      clear HMK HX
      go_wp2_with fail
      clear hmk
      go_loopw [32] (fun i wr => ∃ (j : Nat) (L : List Nat), i = .int .i64 j ∧ j ≤ d.length ∧ RowN .u64 47 wr wo.heap.size wo.heap.size d.length L ∧ L = O.take j ++ List.replicate (d.length - j) 0 ∧ Below wo.heap.size wo wr) (fun i _ => d.length - (intOf i).toNat)
      case atStart => exact ⟨0, _, rfl, Nat.zero_le _, hrow, fill_start O d.length 0, hb2⟩
      case round =>
        clear hrow hb2
        obtain ⟨j, L, rfl, hj, hrow, hL, hbk⟩ := hrel
        have HL := Lib.hid hL; clear hL
        by_cases hjl : j < d.length
        · have hlj : d[j]? = some (d[j]'hjl) := List.getElem?_eq_getElem _
          obtain ⟨_, _, hv1, _, _, hcx⟩ := HR.out.below ((hbel.trans (hbk.mono hbel.size)).mono hB)
          cases hv1
          obtain ⟨ad', e1, _, hgx⟩ := hcx j _ hlj
          cases e1
          have hoj := (HOA' _ _ hlj).out
          have HSE := Lib.hid (fill_set (z := 0) HOL.out hjl hoj)
          have hge := (HLY _ (List.mem_of_getElem? hlj)).out
          have hvb := HI.out.at hlj
          clear hcx hlj hoj
          generalize d[j]'hjl = V at *
          obtain ⟨o, ho⟩ : ∃ o : Nat, (V - x).toNat = o := ⟨_, rfl⟩
          rw [ho] at HSE
          have hE : IntKind.u64.wrap (IntKind.u64.wrap V - IntKind.u64.wrap x) = (o : Int) := by
            rw [IntKind.wrap_u64, IntKind.wrap_u64, IntKind.wrap_u64]; omega
          have hst : RowN .u64 47 (wr.setCell ⟨wo.heap.size, j, none⟩ (.int .u64 (o : Int))) wo.heap.size wo.heap.size d.length (L.set j o) := hrow.store j o
          have hfr := hrow.frozen j
          have hlL : L.length = d.length := by rw [HL.out]; exact fill_len HOL.out hj
          have hcl := hrow.cell j (by omega)
          generalize L.getD j 0 = old at hcl
          have hbel2 : Below wo.heap.size wo (wr.setCell ⟨wo.heap.size, j, none⟩ (.int .u64 (o : Int))) := hbk.setCell (p := ⟨wo.heap.size, j, none⟩) (Nat.le_refl _) _
          have HST := Lib.hid hst; have HBE := Lib.hid hbel2
          clear hst hbel2 ho hge hvb
          go_wp2_with fail
          go_roundw
          case rel => exact ⟨j + 1, L.set j o, by go_num, hjl, HST.out, by rw [HL.out]; exact HSE.out, HBE.out⟩
          case measure => simp [intOf] <;> omega
        · have hjn : j = d.length := by omega
          have hfin : L = O := by rw [HL.out, hjn]; exact fill_end HOL.out
          subst hfin
          have hrd : RdN .u64 wr wr.heap.size (.slice (some ⟨wo.heap.size, 0, none⟩) d.length d.length) L := by
            have h := hrow.read
            rw [HOL.out] at h
            exact h
          have hone := HONE.out
          have HLG := Lib.hid (lag_any _ L _ wr hrd (Nat.le_refl _) (List.length_pos_iff.2 hone) HO64.out)
          have HB := Lib.hid (hbel.trans (hbk.mono hbel.size))
          have HRD := Lib.hid hrd
          clear hrd hone hjn hrow hbel hbk
          go_wp2_with fail
          refine HLG.out.mono ?_; rintro e w2 ⟨rfl, hb2⟩
          have hrd2 := (HRD.out).step hb2
          have hB2 := bel_trans HB.out hb2
          clear HLG HRD HB hb2
          go_wp2_with fail
          refine (bwidth_any _ _ hg64).mono ?_; rintro e w' ⟨rfl, rfl⟩
          rw [HWG.out]
          go_wp2_with fail
          refine (bpack_eq _ L (D : Nat) _ _ hrd2 (Nat.le_refl _) HO64.out HPK.out).mono ?_; rintro e w3 ⟨rfl, hb3⟩
          replace hB2 := bel_trans hB2 hb3
          clear hrd2 hb3 HPK HO64
          go_wp2_with fail
          have hpl := HPL.out
          clear HL HOA' HWG HPL HOL HONE hg64 HLY HLM HI HR hjl hlt
          have hw8 : IntKind.u8.wrap (D : Int) = (D : Int) := by simp [IntKind.wrap, IntKind.bits, IntKind.signed]; omega
          have hcv1 := fun (W : World) m => run_string1 (P := Tryz.prog) 30 9 5 Tryz.underlying30 Tryz.underlying5 Tryz.underlying9 W (D : Int) m
          have hcv2 := fun (W : World) m => run_string1_drew (P := Tryz.prog) 30 9 5 Tryz.underlying30 Tryz.underlying5 Tryz.underlying9 W (D : Int) m
          have hcv3 := fun (W : World) (g : Nat) m h => run_string1_at (P := Tryz.prog) 30 9 5 Tryz.underlying30 Tryz.underlying5 Tryz.underlying9 W g (D : Int) m h
          simp only [Int.toNat_natCast] at hcv1 hcv2 hcv3
          have ha1 := fun w => run_add_parts (P := Tryz.prog) (putL (zigN x).toNat) [UInt8.ofNat D] (by simp only [List.length_cons, List.length_nil]; omega) w
          have ha2 := fun w => run_add_parts (P := Tryz.prog) (putL (zigN x).toNat ++ [UInt8.ofNat D]) (packed L D) (by rw [List.length_append]; simp only [List.length_cons, List.length_nil]; omega) w
          rw [HT.out] at ha2
          have HCV3 := Lib.hid hcv3
          clear HT hput hpl hcv3 h8
          go_region_with (first
            | (go_at_call 102; (with_reducible refine (HPS _).out.mono ?_); rintro e w4 ⟨rfl, hb4⟩; try have hcv4 := fun m => HCV3.out w4 w3.heap.size m ((hb4.cell (by simp)).trans (cell_new1 w3 _ _))))
          all_goals go_wp2
          all_goals go_ret
          all_goals (first
            | exact RetB.mk rfl (bel_trans (hB2.alloc hB2.size (.cells #[.int .u8 (D : Int)] 5)).drew hb4)
            | exact RetB.mk rfl ((bel_trans hB2.drew hb4).alloc (bel_trans hB2.drew hb4).size (.cells #[.int .u8 (D : Int)] 5)))
end Go.Proofs.YtbolbbngncnecaaGreat

/- The walk over Encode of package delta. -/
namespace Go.VB
open Go.RowKit
/-- append(b, s...), s a text: what else there is stays. -/
theorem wpl_appF2 {P : Program} {w : World} {ops : Array Oper} {rest : List Oper} {o : Oper} {a : Act} {Q : Exit → Act → World → Prop} (hgd : o.guard = none) (sl x : Operand) (t u : TypeId)
    (ho : o.op = .call { callee := .builtin .append, args := #[sl, x], argTypes := #[t, u] })
    (base : Nat) (e : TypeId) (ht : P.underlying t = some (.slice e)) (hu : P.underlying u = some .string) (hinfo : (P.info? e).map (fun i => (i.zero, i.size, i.bytes)) = some (some (.int .u8 0), 1, 1))
    (v : Value) (bs : List UInt8) (hs : a.eval sl = v) (hown : OwnF w base v bs) (s : ByteArray) (hx : a.eval x = .string s) (hlen : bs.length + s.size ≤ 225179981368000) (hbase : base ≤ w.heap.size)
    (h : ∀ v' w', OwnF w' base v' (bs ++ s.data.toList) → Below base w w' → w.grownBy w' v.ownBlock → wpList P ops Q rest (a.put o.dst v') w') : wpList P ops Q (o :: rest) a w := by
  refine wpList_plain hgd fun K hK => ?_
  obtain ⟨v', w', hr, h2, h3⟩ := run_appF (P := P) w base t u o.type e ht hu hinfo v bs hown s hlen hbase
  have hbel : Below base w w' := (Below.refl _ _).grown h3 hbase (fun b hb => by
    obtain ⟨g, c, rfl, h1, _⟩ := hown
    simp [Value.ownBlock] at hb
    omega)
  unfold Oper.wp execOp
  simp only [ho, resolve, invoke, builtin, Sem.run_bind, Sem.run_pure, Result.andThen_ok, List.map_toArray, List.map_cons, List.map_nil, hs, hx, hr]
  exact hK _ _ (h v' w' h2 hbel h3)
/-- Bytes and whole numbers lie in different blocks. -/
theorem OwnF.apart {w : World} {base base' g c : Nat} {v : Value} {bs : List UInt8} {e : TypeId} {l : List Int} (h : OwnF w base v bs) (hr : RowV (Value.int .i64) e w base' g c l) (hb : bs ≠ []) (hl : l ≠ []) : v.ownBlock ≠ some g := by
  obtain ⟨g', c', rfl, _, _, _, _, _, h6⟩ := h
  intro he
  simp only [Value.ownBlock, Option.some.injEq] at he
  cases bs with
  | nil => exact hb rfl
  | cons b bs =>
    cases l with
    | nil => exact hl rfl
    | cons x l =>
      have h1 := h6 0 b rfl
      have h2 := hr.cell 0 x rfl
      have h3 : g' = g := by simpa using he
      rw [h3, h2] at h1
      simp [bv] at h1
end Go.VB
namespace Go.Proofs.YtbolbbngncnecaaGreat
open Go.RowKit Go.VB Go.VarM Go.BP Go.RL Go.DL
set_option maxRecDepth 100000 in
set_option maxHeartbeats 4000000 in
theorem dencode_any (v : Value) (l : List Int) (B : Nat) (w : World) (hr : RdV (Value.int .i64) w B v l) (hB : B ≤ w.heap.size) (hi : I64 l) :
    Calls Tryz.prog 75 #[v] w (RetB (.string (str (encX l))) w) := by
  obtain ⟨A, c, rfl, hc1, hc2, hr'⟩ := hr
  have hr : RdV (Value.int .i64) w B (.slice A l.length c) l := ⟨A, c, rfl, hc1, hc2, hr'⟩
  unfold maxLen at hc2
  by_cases h4 : 4096 < l.length
  · rw [encX_out h4]
    have h0 : (((l.length : Nat) : Int) == 0) = false := beq_eq_false_iff_ne.2 (by omega)
    clear hr hr' hi
    go_enter Tryz.func75, Tryz.ntmps75
    go_wp2
    go_ret
    exact RetB.mk rfl (Below.refl _ _)
  cases l with
  | nil =>
    clear hr hr'
    go_enter Tryz.func75, Tryz.ntmps75
    go_wp2
    go_ret
    exact RetB.mk rfl (Below.refl _ _)
  | cons z r =>
    rw [encX_in (by omega)]
    have hz := hi.head
    obtain ⟨ad, rfl, hab, hg0⟩ := hr' 0 z rfl
    rw [addr_zero] at hg0
    have hld : (df (z :: r)).length = (z :: r).length - 1 := df_len _
    have hdi := df_i64 (z :: r)
    have HDF := Lib.hid (fun w' (hb : Below w.heap.size w w') => diffs_any (.slice (some ad) (z :: r).length c) (z :: r) B w' (hr.below (hb.mono hB)) (Nat.le_trans hB hb.size) (by simp) (by omega))
    have HPS := fun w' => Lib.hid (putsig_any z w' hz)
    have hpl := putL_len10 (zig_lt hz)
    have hpp := putL_pos (zigN z).toNat
    have h0 : (((z :: r).length : Int) == 0) = false := beq_eq_false_iff_ne.2 (by simp; omega)
    have hl1 : 1 ≤ (z :: r).length := by simp
    clear hr hr' hi
    generalize df (z :: r) = D at *
    generalize (z :: r).length = N at *
    generalize putL (zigN z).toNat = H at *
    generalize hT : H ++ encB D = T
    have HT := Lib.hid hT; clear hT
    go_enter Tryz.func75, Tryz.ntmps75
    go_wp2_with fail
    refine (HPS _).out.mono ?_
    rintro e w2 ⟨rfl, hb2⟩
    have hsz2 := hb2.size
    obtain ⟨ve, w3, hcv, hown, hb3⟩ := run_bytes_F (P := Tryz.prog) w2 w.heap.size 9 30 5 (str H) Tryz.underlying9 Tryz.underlying30 Tryz.underlying5 (by rw [str_size]; omega) hsz2
    have hb13 := hb2.trans (hb3.mono hsz2)
    clear HPS hb2 hb3
    go_wp2_with fail
    clear hcv
    refine (HDF.out _ hb13).mono ?_
    rintro e w4 ⟨g, rfl, hrow, hb4⟩
    have hdl := hrow.lt
    obtain ⟨B3, hB3⟩ : ∃ B3, B3 = w3.heap.size := ⟨_, rfl⟩
    rw [← hB3] at hrow
    have hown4 := hown.below hb4
    have hb14 := hb13.trans (hb4.mono hb13.size)
    have hHne : (str H).data.toList ≠ [] := List.ne_nil_of_length_pos hpp
    have hst : (str H).data.toList ++ encB (D.drop 0) = T := HT.out
    have hTl : T.length ≤ 77834 := by
      have h2 := encB_len _ D (Nat.le_refl _) hdi
      rw [← HT.out, List.length_append]; omega
    obtain ⟨n, hn⟩ : ∃ n, D.length = n := ⟨_, rfl⟩
    rw [hn] at hrow ⊢
    have hn4 : n ≤ 4096 := by omega
    have HDI := Lib.hid hdi; have HN := Lib.hid hn
    clear HDF hown hb4 hb13 hsz2 hdi hn hB3 hld h0 hl1 hg0
    go_wp2_with fail
    go_loopw [3, 4] (fun v d wr => ∃ (bs : List UInt8) (k k' m : Nat), d = .slice (some ⟨g, k', none⟩) m m ∧ k + m ≤ n ∧ n ≤ k + m ∧ (0 < m → k' = k) ∧ RowV (Value.int .i64) 2 wr B3 g n D ∧ OwnF wr w.heap.size v bs ∧ bs ≠ [] ∧ bs ++ encB (D.drop k) = T ∧ Below w.heap.size w wr) (fun _ d _ => lenS d)
    case atStart => exact ⟨_, 0, 0, n, rfl, by omega, by omega, fun _ => rfl, hrow, hown4, hHne, hst, hb14⟩
    case round =>
      clear hrow hown4 hHne hst hb14 hdl
      obtain ⟨bs, k, k', m, rfl, hk1, hk2, hkk, hrow, hown, hbs, hT, hbel⟩ := hrel
      by_cases hm0 : 0 < m
      · obtain rfl : k' = k := hkk hm0
        clear hkk
        have hdk : (D.drop k').length = m := by rw [List.length_drop, HN.out]; omega
        have hdne : D.drop k' ≠ [] := List.ne_nil_of_length_pos (by omega)
        have hDne : D ≠ [] := List.ne_nil_of_length_pos (by rw [HN.out]; omega)
        have hPart : ∀ (q : List Int) (cc : Nat), (∀ i x, q[i]? = some x → (D.drop k')[i]? = some x) → q.length ≤ cc → cc ≤ 4096 → RdV (Value.int .i64) wr wr.heap.size (.slice (some ⟨g, k', none⟩) q.length cc) q := fun q cc h1 h2 h3 =>
          hrow.part (fun i x hx => by have := h1 i x hx; rwa [List.getElem?_drop] at this) h2 (by unfold maxLen; omega)
        have hap := hown.apart hrow hbs hDne
        by_cases hm : m ≤ 32
        · have hrd := hPart (D.drop k') m (fun _ _ h => h) (by omega) (by omega)
          rw [hdk] at hrd
          have htk : (D.drop k').take 32 = D.drop k' := List.take_of_length_le (by omega)
          have hd2 : (D.drop k').drop 32 = [] := List.drop_eq_nil_of_le (by omega)
          rw [encB_go hdne, htk, hd2, encB_nil, List.append_nil] at hT
          have hbl := blk_len (HDI.out.drop k') hdne
          have HPB := Lib.hid (putblock_any _ (D.drop k') _ wr hrd (Nat.le_refl _) (by omega) (by omega) (HDI.out.drop k'))
          have hdn : D.drop (k' + m) = [] := List.drop_eq_nil_of_le (by rw [HN.out]; omega)
          generalize blk (D.drop k') = bk at *
          have hlen := congrArg List.length hT
          rw [List.length_append] at hlen
          have H1 := Lib.hid (show bs.length + (str bk).size ≤ 225179981368000 by rw [str_size]; omega)
          have HT2 := Lib.hid hT; have HDN := Lib.hid hdn
          clear hT hlen htk hd2 hdk hPart hrd hdn
          go_wp2_with (first
            | (go_at_call 104; (with_reducible refine HPB.out.mono ?_); rintro e w5 ⟨rfl, hb5⟩; have hown5 := hown.below hb5; have hrow5 := hrow.below hb5; have hbel5 := hbel.trans (hb5.mono hbel.size); clear hown hbel hrow hb5)
            | (at_builtin; refine wpl_appF2 rfl _ _ 30 9 rfl w.heap.size 5 Tryz.underlying30 Tryz.underlying9 Tryz.infoU8 _ bs rfl hown5 _ rfl H1.out hbel5.size ?_; intro v6 w6 hown6 hb6 hg6; have hrow6 := hrow5.keep hg6 hap; have hbel6 := hbel5.trans hb6))
          go_roundw
          case rel => exact ⟨bs ++ bk, k' + m, k', 0, rfl, by omega, by omega, fun h => absurd h (by omega), hrow6, hown6, by simp [hbs], by rw [HDN.out, encB_nil, List.append_nil]; exact HT2.out, hbel6⟩
          case measure => simp only [lenS]; omega
        · have h32 : ((D.drop k').take 32).length = 32 := by rw [List.length_take]; omega
          have hrd := hPart ((D.drop k').take 32) m (fun i x h => by
            rw [List.getElem?_take] at h
            split at h
            · exact h
            · cases h) (by omega) (by omega)
          rw [h32] at hrd
          rw [encB_go hdne, ← List.append_assoc] at hT
          have htne := take_ne hdne
          have hi32 := i64_take (HDI.out.drop k') 32
          have hbl := blk_len hi32 htne
          have HPB := Lib.hid (putblock_any _ ((D.drop k').take 32) _ wr hrd (Nat.le_refl _) (by omega) (by omega) hi32)
          have hdd : (D.drop k').drop 32 = D.drop (k' + 32) := List.drop_drop
          rw [hdd] at hT
          generalize blk ((D.drop k').take 32) = bk at *
          have hlen := congrArg List.length hT
          rw [List.length_append, List.length_append] at hlen
          have H1 := Lib.hid (show bs.length + (str bk).size ≤ 225179981368000 by rw [str_size]; omega)
          have HT2 := Lib.hid hT
          have hmne : ¬ m = 32 := by omega
          clear hT hlen hdk hPart hrd h32 htne hi32 hdd
          go_wp2_with (first
            | (go_at_call 104; (with_reducible refine HPB.out.mono ?_); rintro e w5 ⟨rfl, hb5⟩; have hown5 := hown.below hb5; have hrow5 := hrow.below hb5; have hbel5 := hbel.trans (hb5.mono hbel.size); clear hown hbel hrow hb5)
            | (at_builtin; refine wpl_appF2 rfl _ _ 30 9 rfl w.heap.size 5 Tryz.underlying30 Tryz.underlying9 Tryz.infoU8 _ bs rfl hown5 _ rfl H1.out hbel5.size ?_; intro v6 w6 hown6 hb6 hg6; have hrow6 := hrow5.keep hg6 hap; have hbel6 := hbel5.trans hb6))
          go_roundw
          case rel => exact ⟨bs ++ bk, k' + 32, k' + 32, m - 32, rfl, by omega, by omega, fun _ => rfl, hrow6, hown6, by simp [hbs], HT2.out, hbel6⟩
          case measure => simp only [lenS]; omega
      · have hdn : D.drop k = [] := List.drop_eq_nil_of_le (by rw [HN.out]; omega)
        rw [hdn, encB_nil, List.append_nil] at hT
        subst hT
        have hcv := run_string_of_F (P := Tryz.prog) 30 9 5 Tryz.underlying30 Tryz.underlying5 Tryz.underlying9 hown
        clear hdn
        go_wp2
        go_ret
        exact RetB.mk rfl hbel
end Go.Proofs.YtbolbbngncnecaaGreat

/- The walks over package delta: a block read. -/
namespace Go.DL
open Go.RowKit Go.VB Go.VarM Go.BP Go.RL
/-- It returns a list of its own, an index and a code. -/
def RetG3 (e : TypeId) (x : List Int × Nat × Nat) (w : World) : Ending → World → Prop := fun en w' =>
  ∃ v, en = .returned (.tuple #[v, .int .i64 (x.2.1 : Int), .int .i64 (x.2.2 : Int)]) ∧ OwnV (Value.int .i64) e w' w.heap.size v x.1 ∧ Below w.heap.size w w'
theorem RetG3.mk {e : TypeId} {l : List Int} {q c : Nat} {w w' : World} {x v : Value} (hx : x = .tuple #[v, .int .i64 (q : Int), .int .i64 (c : Int)]) (ho : OwnV (Value.int .i64) e w' w.heap.size v l) (hb : Below w.heap.size w w') : RetG3 e (l, q, c) w (.returned x) w' := ⟨v, by rw [hx], ho, hb⟩
theorem map_at {u : List Nat} {m : Int} {i o : Nat} (h : u[i]? = some o) : (u.map fun o : Nat => m + (o : Int))[i]? = some (m + o) := by rw [List.getElem?_map, h]; rfl
theorem text_some {s : ByteArray} (h : ¬ s.size = 0) : s.toList.isEmpty = false := by
  rw [ByteArray.toList_eq]
  cases hl : s.data.toList with
  | nil => rw [← size_list, hl] at h; exact absurd rfl h
  | cons _ _ => rfl
end Go.DL
namespace Go.Proofs.YtbolbbngncnecaaGreat
open Go.RowKit Go.VB Go.VarM Go.BP Go.RL Go.DL
set_option maxRecDepth 100000 in
set_option maxHeartbeats 2000000 in
theorem addeach_any (v : Value) (u : List Nat) (m : Int) (B : Nat) (w : World) (hr : RdN .u64 w B v u) (hB : B ≤ w.heap.size) (hl : u.length ≤ 4096) (hm : -9223372036854775808 ≤ m ∧ m ≤ 9223372036854775807) (hs : ∀ o ∈ u, m + (o : Int) ≤ 9223372036854775807) :
    Calls Tryz.prog 131 #[v, .int .i64 m] w (RetV (Value.int .i64) 2 (u.map fun o : Nat => m + (o : Int)) w) := by
  obtain ⟨A, c, rfl, hc1, hc2, hr'⟩ := hr
  have hr : RdN .u64 w B (.slice A u.length c) u := ⟨A, c, rfl, hc1, hc2, hr'⟩
  clear hr'
  unfold maxLen at hc2
  have hmk := run_makeV (P := Tryz.prog) (t := 70) (z := .int .i64 0) rfl Tryz.underlying70 Tryz.infI64 u.length (by omega) (by unfold maxLen; omega) w
  have hrow := RowV.made (Value.int .i64) 0 2 w w.heap.size u.length (Nat.le_refl _) (by unfold maxLen; omega)
  have hb2 := (Below.refl w.heap.size w).alloc (Nat.le_refl _) (.cells (madeCells #[.int .i64 0] u.length) 2)
  generalize w.alloc (.cells (madeCells #[.int .i64 0] u.length) 2) = w1 at hmk hrow hb2
  have hdl : (u.map fun o : Nat => m + (o : Int)).length = u.length := List.length_map _
  have HMA := fun i o (h : u[i]? = some o) => map_at (m := m) h
  generalize (u.map fun o : Nat => m + (o : Int)) = L0 at *
  have HR := Lib.hid hr; have HDL := Lib.hid hdl; have HS := Lib.hid hs; have HMB := fun i o h => Lib.hid (HMA i o h)
  clear hr hdl hs HMA
  go_enter Tryz.func131, Tryz.ntmps131
  go_wp2_with fail
  go_loopw [13] (fun i wr => ∃ (j : Nat) (L : List Int), i = .int .i64 j ∧ j ≤ u.length ∧ RowV (Value.int .i64) 2 wr w.heap.size w.heap.size u.length L ∧ L = L0.take j ++ List.replicate (u.length - j) 0 ∧ Below w.heap.size w wr) (fun i _ => u.length - (intOf i).toNat)
  case atStart => exact ⟨0, _, rfl, Nat.zero_le _, hrow, fill_start L0 u.length 0, hb2⟩
  case round =>
    clear hrow hb2 hmk
    obtain ⟨j, L, rfl, hj, hrow, hL, hbel⟩ := hrel
    have HL := Lib.hid hL; clear hL
    by_cases hjl : j < u.length
    · have hlj : u[j]? = some (u.getD j 0) := by rw [List.getD_eq_getElem?_getD, List.getElem?_eq_getElem hjl]; rfl
      obtain ⟨_, _, hv1, _, _, hcx⟩ := HR.out.below (hbel.mono hB)
      cases hv1
      obtain ⟨ad, rfl, _, hgx⟩ := hcx j hjl
      have hsj := HS.out _ (List.mem_of_getElem? hlj)
      have HSE := Lib.hid (fill_set (z := 0) HDL.out hjl (HMB _ _ hlj).out)
      clear hcx hlj
      generalize u.getD j 0 = o at *
      obtain ⟨x, hx⟩ : ∃ x, m + (o : Int) = x := ⟨_, rfl⟩
      rw [hx] at HSE hsj
      have hE : wrap64 (m + wrap64 (o : Int)) = x := by unfold wrap64; omega
      have hst : RowV (Value.int .i64) 2 (wr.setCell ⟨w.heap.size, j, none⟩ (.int .i64 x)) w.heap.size w.heap.size u.length (L.set j x) := hrow.store j x
      have hfr := hrow.frozen j
      have hlL : L.length = u.length := by rw [HL.out]; exact fill_len HDL.out hj
      have hLj : L[j]? = some (L[j]'(by omega)) := List.getElem?_eq_getElem _
      have hcl := hrow.cell j _ hLj
      generalize L[j]'_ = old at hcl
      have hbel2 : Below w.heap.size w (wr.setCell ⟨w.heap.size, j, none⟩ (.int .i64 x)) := hbel.setCell (p := ⟨w.heap.size, j, none⟩) (Nat.le_refl _) _
      have HST := Lib.hid hst; have HBE := Lib.hid hbel2
      clear hLj hst hbel2 hx hsj
      go_wp2_with fail
      go_roundw
      case rel => exact ⟨j + 1, L.set j x, by go_num, hjl, HST.out, by rw [HL.out]; exact HSE.out, HBE.out⟩
      case measure => simp [intOf] <;> omega
    · have hjn : j = u.length := by omega
      have hfin : L = L0 := by rw [HL.out, hjn]; exact fill_end HDL.out
      subst hfin
      go_wp2
      go_ret
      exact RetV.mk rfl (hrow.own_at HDL.out rfl) hbel
section
variable (v : Value) (u : List Nat) (k : Nat) (m : Int) (B : Nat) (w : World) (hr : RdN .u64 w B v u) (hB : B ≤ w.heap.size) (h0 : 0 < u.length) (h64 : ∀ x ∈ u, x < 18446744073709551616) (hk : k ≤ 64) (hm : -9223372036854775808 ≤ m ∧ m ≤ 9223372036854775807)
include hr hB h0 h64 hk hm
set_option maxRecDepth 100000 in
set_option maxHeartbeats 2000000 in
theorem areoff_any (b : Bool) (hb : b = decide (okO u k m)) : Calls Tryz.prog 130 #[v, .int .i64 (k : Int), .int .i64 m] w (RetB (.bool b) w) := by
  have HLG := Lib.hid (lag_any v u B w hr hB h0 h64)
  have hg64 := h64 _ (gr_in (List.ne_nil_of_length_pos h0))
  have HW := fun w => Lib.hid (bwidth_any (gr u) w hg64)
  obtain ⟨R, hR⟩ : ∃ R : Nat, (9223372036854775807 - m).toNat = R := ⟨_, rfl⟩
  have hRw : IntKind.u64.wrap (9223372036854775807 - IntKind.u64.wrap m) = (R : Int) := by rw [IntKind.wrap_u64, IntKind.wrap_u64]; omega
  have hRb : R < 18446744073709551616 := by omega
  have hbb : b = (decide (lo u = 0) && decide (wid (gr u) = k) && decide (gr u ≤ R)) := by
    rw [hb, ← Bool.decide_and, ← Bool.decide_and]
    refine decide_eq_decide.2 ?_
    unfold okO
    rw [and_assoc]
    refine and_congr_right fun _ => and_congr_right fun _ => ?_
    omega
  have hwl := wid_64 hg64
  clear hr h64 hb hR h0 hB
  generalize lo u = lw at *
  generalize wid (gr u) = d at *
  generalize gr u = g at *
  have HBB := Lib.hid hbb; clear hbb
  by_cases h1 : lw = 0
  · subst h1
    by_cases h2 : d = k
    · subst h2
      by_cases h3 : g ≤ R
      · have hd : decide (g ≤ R) = true := decide_eq_true h3
        go_enter Tryz.func130, Tryz.ntmps130
        go_wp2_with (first
          | (go_at_call 121; (with_reducible refine HLG.out.mono ?_); rintro e w2 ⟨rfl, hb2⟩)
          | (go_at_call 122; (with_reducible refine (HW _).out.mono ?_); rintro e w' ⟨rfl, rfl⟩))
        go_ret
        exact RetB.mk (by rw [HBB.out]; simp [h3]) hb2
      · have hd : decide (g ≤ R) = false := decide_eq_false h3
        go_enter Tryz.func130, Tryz.ntmps130
        go_wp2_with (first
          | (go_at_call 121; (with_reducible refine HLG.out.mono ?_); rintro e w2 ⟨rfl, hb2⟩)
          | (go_at_call 122; (with_reducible refine (HW _).out.mono ?_); rintro e w' ⟨rfl, rfl⟩))
        go_ret
        exact RetB.mk (by rw [HBB.out]; simp [h3]) hb2
    · have hd : ((d : Int) == (k : Int)) = false := beq_eq_false_iff_ne.2 (by omega)
      go_enter Tryz.func130, Tryz.ntmps130
      go_wp2_with (first
        | (go_at_call 121; (with_reducible refine HLG.out.mono ?_); rintro e w2 ⟨rfl, hb2⟩)
        | (go_at_call 122; (with_reducible refine (HW _).out.mono ?_); rintro e w' ⟨rfl, rfl⟩))
      go_ret
      exact RetB.mk (by rw [HBB.out]; simp [h2]) hb2
  · have hd : ((lw : Int) == 0) = false := beq_eq_false_iff_ne.2 (by omega)
    go_enter Tryz.func130, Tryz.ntmps130
    go_wp2_with (first
      | (go_at_call 121; (with_reducible refine HLG.out.mono ?_); rintro e w2 ⟨rfl, hb2⟩)
      | (go_at_call 122; (with_reducible refine (HW _).out.mono ?_); rintro e w' ⟨rfl, rfl⟩))
    go_ret
    exact RetB.mk (by rw [HBB.out]; simp [h1]) hb2
end
set_option maxHeartbeats 400000 in
theorem decnone_any (s : ByteArray) (w : World) : Calls Tryz.prog 113 #[.string s] w (RetVE (Value.int .i64) 2 (decX s 0).1 (decX s 0).2 w) := by
  by_cases h : s.size = 0
  · rw [decX_nil h]
    have hs : s.data.toList = [] := List.eq_nil_of_length_eq_zero (by rw [size_list]; exact h)
    obtain rfl : s = ⟨#[]⟩ := ByteArray.ext (Array.ext' hs)
    clear hs h
    go_enter Tryz.func113, Tryz.ntmps113
    go_wp2
    go_ret2
    exact RetVE.mk rfl (OwnV.nil _ _ _ _) (Below.refl _ _)
  · rw [decX_some h]
    have hn := text_some h
    go_enter Tryz.func113, Tryz.ntmps113
    go_wp2
    go_ret2
    exact RetVE.mk rfl (OwnV.nil _ _ _ _) (Below.refl _ _)
theorem len3 (l : List Int) : l.length = l.length := rfl
section
variable (s : ByteArray) (p : Int) (c : Nat) (w : World) (hs : s.size ≤ 140737488351232) (h1 : 1 ≤ c) (h32 : c ≤ 32)
include hs h1 h32
set_option maxRecDepth 100000 in
set_option maxHeartbeats 4000000 in
theorem getblock_any : Calls Tryz.prog 115 #[.string s, .int .i64 p, .int .i64 (c : Int)] w (RetG3 2 (getB s p c) w) := by
  have hmx : s.size ≤ maxLen := by unfold maxLen; omega
  obtain ⟨a, b, e, hg⟩ : ∃ a b e, getR s p = (a, b, e) := ⟨_, _, _, rfl⟩
  by_cases he : e = 0
  · subst he
    obtain ⟨q, hq, hqs⟩ : ∃ q : Nat, b = q ∧ q ≤ s.size := by
      obtain ⟨k, m, _, h2, _, h3, _⟩ := getR_zero hg
      exact ⟨k + m, by omega, h3⟩
    subst hq
    have ha : a < 18446744073709551616 := by
      obtain ⟨_, _, _, _, _, _, _, h⟩ := getR_zero hg; exact h
    have HG := Lib.hid (getsig_ok s p w hmx hg)
    by_cases hb : q < s.size
    · have hbn := get_bN s q hb
      have hb256 := bN_lt s q
      by_cases hw : bN s q ≤ 64
      · obtain ⟨n, hn⟩ : ∃ n, (c * bN s q + 7) / 8 = n := ⟨_, rfl⟩
        obtain ⟨k, hk⟩ : ∃ k, bN s q = k := ⟨_, rfl⟩
        have hnn : needN (c : Int) (k : Int) = (n : Int) := by rw [← hk, needN_in (by omega) hw, hn]
        have hn8 := need8 (c := c) hw
        rw [hn] at hn8
        rw [hk] at hw hn hbn hb256
        have HN := fun w => Lib.hid (bneed_any (c : Int) (k : Int) w)
        rw [hnn] at HN
        by_cases hsz : q + 1 + n ≤ s.size
        · have hps := pk_size hsz
          have hx : s.extract (q + 1) (q + 1 + n) = pk s q n := rfl
          have hz := zag_bd (v := (a : Int)) (by omega) (by omega)
          by_cases hr : num (pk s q n) < 2 ^ (c * k)
          · have hul := digs_len k c (num (pk s q n))
            have hu := digs_lt k c (num (pk s q n))
            have HUN := fun w => Lib.hid (bunpack_eq (pk s q n) (c : Int) (k : Int) w (unpackR_ok (n := c) (w := k) (by omega) hw (by rw [hps, hn]) hr))
            have hB1 := fun (ho : ¬ okO (digs k c (num (pk s q n))) k (zagN a)) => getB_off (c := c) hg hb hk hw hn hsz hr rfl ho
            have hB2 := fun (ho : okO (digs k c (num (pk s q n))) k (zagN a)) => getB_ok (c := c) hg hb hk hw hn hsz hr rfl ho
            generalize digs k c (num (pk s q n)) = u at *
            generalize pk s q n = S at *
            generalize zagN (a : Int) = m at *
            have h2k : (2 : Nat) ^ k ≤ 18446744073709551616 := by
              have := Nat.pow_le_pow_right (n := 2) (by decide) hw
              simpa using this
            have hu64 : ∀ x ∈ u, x < 18446744073709551616 := fun x hx => Nat.lt_of_lt_of_le (hu x hx) h2k
            have hu0 : 0 < u.length := by omega
            have huc : u.length ≤ 4096 := by omega
            have HA := fun (v : Value) w (h : RdN .u64 w w.heap.size v u) => areoff_any v u k m _ w h (Nat.le_refl _) hu0 hu64 hw hz
            by_cases ho : okO u k m
            · rw [hB2 ho]
              have HA' := fun v w h => Lib.hid (HA v w h true (decide_eq_true ho).symm)
              have hsm : ∀ o ∈ u, m + (o : Int) ≤ 9223372036854775807 := fun o h => by
                have h1 := gr_ge h
                have h2 := ho.2.2
                omega
              have HAD := fun (v : Value) w (h : RdN .u64 w w.heap.size v u) => Lib.hid (addeach_any v u m _ w h (Nat.le_refl _) huc hz hsm)
              have HX := Lib.hid hx
              clear hB1 hB2 HA ho hsm hu hu64 hul hps hr hg hk hn hnn h2k hx
              generalize (u.map fun o : Nat => m + (o : Int)) = L at *
              go_enter Tryz.func115, Tryz.ntmps115
              go_wp2_with (first
                | (go_at_call 114; (with_reducible refine HG.out.mono ?_); rintro e w' ⟨rfl, rfl⟩)
                | (go_at_call 127; (with_reducible refine (HN _).out.mono ?_); rintro e w' ⟨rfl, rfl⟩))
              rw [HX.out]
              refine (HUN _).out.mono ?_; rintro e w1 ⟨v1, rfl, hown1, hb1⟩
              have hrd1 := hown1.read
              clear hown1 HUN HX
              go_wp2_with fail
              refine (HA' _ _ hrd1).out.mono ?_; rintro e w2 ⟨rfl, hb2⟩
              have hrd2 := hrd1.step hb2
              have hB := bel_trans hb1 hb2
              clear hrd1 hb1 hb2 HA'
              go_wp2_with fail
              refine (HAD _ _ hrd2).out.mono ?_; rintro e w3 ⟨v3, rfl, hown3, hb3⟩
              have hown := hown3.lower hB.size
              have hBB := bel_trans hB hb3
              clear hrd2 hown3 hb3 HAD
              go_wp2
              go_ret3
              exact RetG3.mk rfl hown hBB
            · rw [hB1 ho]
              have HA' := fun v w h => Lib.hid (HA v w h false (decide_eq_false ho).symm)
              have HX := Lib.hid hx
              clear hB1 hB2 HA ho hu hu64 hul hps hr hg hk hn hnn h2k hx
              go_enter Tryz.func115, Tryz.ntmps115
              go_wp2_with (first
                | (go_at_call 114; (with_reducible refine HG.out.mono ?_); rintro e w' ⟨rfl, rfl⟩)
                | (go_at_call 127; (with_reducible refine (HN _).out.mono ?_); rintro e w' ⟨rfl, rfl⟩))
              rw [HX.out]
              refine (HUN _).out.mono ?_; rintro e w1 ⟨v1, rfl, hown1, hb1⟩
              have hrd1 := hown1.read
              clear hown1 HUN HX
              go_wp2_with fail
              refine (HA' _ _ hrd1).out.mono ?_; rintro e w2 ⟨rfl, hb2⟩
              have hB := bel_trans hb1 hb2
              clear hrd1 hb1 hb2 HA'
              go_wp2
              go_ret3
              exact RetG3.mk rfl (OwnV.nil _ _ _ _) hB
          · have HUN := fun w => Lib.hid (bunpack_eq (pk s q n) (c : Int) (k : Int) w (unpackR_rest (n := c) (w := k) (by omega) hw (by rw [hps, hn]) hr))
            rw [getB_rest hg hb hk hw hn hsz hr]
            have HX := Lib.hid hx
            clear hg hk hn hnn hr hps hx
            generalize pk s q n = S at *
            generalize zagN (a : Int) = m at *
            go_enter Tryz.func115, Tryz.ntmps115
            go_wp2_with (first
              | (go_at_call 114; (with_reducible refine HG.out.mono ?_); rintro e w' ⟨rfl, rfl⟩)
              | (go_at_call 127; (with_reducible refine (HN _).out.mono ?_); rintro e w' ⟨rfl, rfl⟩))
            rw [HX.out]
            refine (HUN _).out.mono ?_; rintro e w1 ⟨v1, rfl, hown1, hb1⟩
            have hrd1 := hown1.read
            clear hown1 HUN HX
            clear hrd1
            go_wp2
            go_ret3
            exact RetG3.mk rfl (OwnV.nil _ _ _ _) hb1
        · rw [getB_short hg hb hk hw hn (by omega)]
          have hd : ¬ ((q : Int) + 1 + (n : Int) ≤ (s.size : Int)) := by omega
          clear hg hk hn hnn
          go_enter Tryz.func115, Tryz.ntmps115
          go_wp2_with (first
            | (go_at_call 114; (with_reducible refine HG.out.mono ?_); rintro e w' ⟨rfl, rfl⟩)
            | (go_at_call 127; (with_reducible refine (HN _).out.mono ?_); rintro e w' ⟨rfl, rfl⟩))
          go_ret3
          exact RetG3.mk rfl (OwnV.nil _ _ _ _) (Below.refl _ _)
      · rw [getB_w hg hb rfl (by omega)]
        clear hg
        generalize bN s q = k at *
        go_enter Tryz.func115, Tryz.ntmps115
        go_wp2_with (go_at_call 114; (with_reducible refine HG.out.mono ?_); rintro e w' ⟨rfl, rfl⟩)
        go_ret3
        exact RetG3.mk rfl (OwnV.nil _ _ _ _) (Below.refl _ _)
    · rw [getB_end hg (by omega)]
      have hd : ((q : Int) == (s.size : Int)) = true := by rw [beq_iff_eq]; omega
      clear hg
      go_enter Tryz.func115, Tryz.ntmps115
      go_wp2_with (go_at_call 114; (with_reducible refine HG.out.mono ?_); rintro e w' ⟨rfl, rfl⟩)
      go_ret3
      exact RetG3.mk rfl (OwnV.nil _ _ _ _) (Below.refl _ _)
  · rw [getB_e hg he]
    have HG := Lib.hid (getsig_e s p w hmx hg he)
    have hd : ((e : Int) != 0) = true := by simp; omega
    clear hg he
    go_enter Tryz.func115, Tryz.ntmps115
    go_wp2_with (go_at_call 114; (with_reducible refine HG.out.mono ?_); rintro e w' ⟨rfl, rfl⟩)
    go_ret3
    exact RetG3.mk rfl (OwnV.nil _ _ _ _) (Below.refl _ _)
end
end Go.Proofs.YtbolbbngncnecaaGreat

/- The walk over Decode of package delta. -/
namespace Go.VB
open Go.RowKit
/-- append(s, x) of one element onto a row at a known block that has room for it. -/
theorem wpl_appR {α : Type} {f : α → Value} {P : Program} {w : World} {ops : Array Oper} {rest : List Oper} {o : Oper} {a : Act} {Q : Exit → Act → World → Prop} (hone : ∀ x : α, (f x).oneCell' = true) (z : Value) (hgd : o.guard = none) (s x : Operand) (t : TypeId)
    (ho : o.op = .call { callee := .builtin .append, args := #[s, x], argTypes := #[t, t] })
    (base : Nat) (e : TypeId) (bytes : Nat) (ht : P.underlying t = some (.slice e)) (hinfo : (P.info? e).map (fun i => (i.zero, i.size, i.bytes)) = some (some z, 1, bytes))
    (g c : Nat) (l : List α) (hs : a.eval s = .slice (some ⟨g, 0, none⟩) l.length c) (hrow : RowV f e w base g c l) (B : Nat) (vx : Value) (y : α) (hx : a.eval x = vx) (hr : RdV f w B vx [y])
    (hroom : l.length + 1 ≤ c)
    (h : ∀ w', RowV f e w' base g c (l ++ [y]) → Below base w w' → w.grownBy w' (some g) → wpList P ops Q rest (a.put o.dst (.slice (some ⟨g, 0, none⟩) (l.length + 1) c)) w') : wpList P ops Q (o :: rest) a w := by
  obtain ⟨i, hi, hz, hsz, hby⟩ := info_parts hinfo
  obtain ⟨A, cx, rfl, hc, hm, hcell⟩ := hr
  obtain ⟨ad, rfl, _, hy0⟩ := hcell 0 y rfl
  have hrow' : w.ownsRow base e 1 (.slice (some ⟨g, 0, none⟩) l.length c) l.length (l.map f) := hrow
  rcases hrow'.2 with ⟨h1, _⟩ | ⟨g', c', cur, h1, hbg, hg, hnc, hcm, hcs, htake⟩
  · cases h1
  cases h1
  have hcs' : cur.size = c := by simpa using hcs
  have htk : cur.toList.take l.length = l.map f := by simpa using htake
  have hfl : (l.map f).length = l.length := List.length_map _
  have hrun := run_append_room (P := P) w t o.type e i ht hi g l.length c cur hg ad 1 cx [f y] (by rw [hsz]; rfl)
    (fun j u hj => by
      obtain ⟨hj1, he⟩ := List.getElem?_eq_some_iff.1 hj
      have hj0 : j = 0 := by simp at hj1; exact hj1
      subst hj0
      rw [hy0]; simpa using he)
    (fun u hu => by rw [List.mem_singleton.1 hu]; exact hone y) hroom (by rw [hsz, hcs']; simp; omega)
  have hg2 : w.grownBy (w.setRow g (cur.toList.take (l.length * i.size) ++ [f y] ++ cur.toList.drop (l.length * i.size + [f y].length)).toArray) (some g) := ⟨rfl, rfl, rfl, by simp, fun k _ hk => setRow_other w g k _ (fun e => hk (by rw [e]))⟩
  have hgl := (Array.getElem?_eq_some_iff.1 hg).1
  refine wpList_plain hgd fun K hK => ?_
  unfold Oper.wp execOp
  simp only [ho, resolve, invoke, builtin, Sem.run_bind, Sem.run_pure, Result.andThen_ok, List.map_toArray, List.map_cons, List.map_nil, hs, hx]
  have hx1 : ([y].length : Nat) = 1 := rfl
  rw [hx1, hrun]
  refine hK _ _ (h _ ?_ ((Below.refl _ _).grown hg2 (by omega) (fun b hb => by rw [← Option.some.inj hb]; exact hbg)) hg2)
  refine ⟨by simp, .inr ⟨g, c, _, by rw [List.length_append], hbg, setRow_heap w g cur _ e _ hg, by rw [List.length_append]; exact hroom, hcm, ?_, ?_⟩⟩
  · simp only [List.size_toArray, List.length_append, List.length_take, List.length_drop, Array.length_toList, hsz, List.length_cons, List.length_nil]
    omega
  · rw [hsz, Nat.mul_one, Nat.mul_one, htk, List.map_append]
    have e1 : (l ++ [y]).length = (l.map f ++ [f y]).length := by simp
    rw [e1]
    exact List.take_left
end Go.VB
namespace Go.DL
open Go.RowKit Go.VB Go.VarM Go.BP Go.RL
/-- It returns a list of its own, an index and a code. -/
def RetGB (e : TypeId) (d : List Int) (q c : Nat) (w : World) : Ending → World → Prop := fun en w' =>
  ∃ v, en = .returned (.tuple #[v, .int .i64 (q : Int), .int .i64 (c : Int)]) ∧ OwnV (Value.int .i64) e w' w.heap.size v d ∧ Below w.heap.size w w'
theorem getB_zero {s : ByteArray} {p : Int} {c : Nat} {d : List Int} {q : Nat} (h : getB s p c = (d, q, 0)) : d.length = c := by
  unfold getB at h
  repeat' split at h
  all_goals first
    | (have h2 := congrArg (fun x => x.2.2) h; simp only at h2; omega)
    | (have h1 := congrArg (fun x => x.1) h; simp only at h1; rw [← h1, List.length_map, digs_len])
theorem last_of {L : List Int} {x : Int} (h : L[L.length - 1]? = some x) : L.getLastD 0 = x := by rw [List.getLastD_eq_getLast?, List.getLast?_eq_getElem?, h]; rfl
end Go.DL
namespace Go.Proofs.YtbolbbngncnecaaGreat
open Go.RowKit Go.VB Go.VarM Go.BP Go.RL Go.DL
theorem getblock_is (s : ByteArray) (p : Int) (c : Nat) (w : World) (hs : s.size ≤ 140737488351232) (h1 : 1 ≤ c) (h32 : c ≤ 32) {d : List Int} {q e : Nat} (hg : getB s p c = (d, q, e)) :
    Calls Tryz.prog 115 #[.string s, .int .i64 p, .int .i64 (c : Int)] w (RetGB 2 d q e w) := by
  have := getblock_any s p c w hs h1 h32
  rw [hg] at this
  exact this
set_option maxRecDepth 100000 in
set_option maxHeartbeats 4000000 in
theorem ddecode_any (s : ByteArray) (n : Int) (w : World) (hs : s.size ≤ 140737488351232) :
    Calls Tryz.prog 88 #[.string s, .int .i64 n] w (RetVE (Value.int .i64) 2 (decX s n).1 (decX s n).2 w) := by
  by_cases hn : n < 0 ∨ 4096 < n
  · rw [decX_out hn]
    rcases hn with hn | hn
    · go_enter Tryz.func88, Tryz.ntmps88
      go_wp2
      go_ret2
      exact RetVE.mk rfl (OwnV.nil _ _ _ _) (Below.refl _ _)
    · by_cases h0 : n < 0
      · omega
      · go_enter Tryz.func88, Tryz.ntmps88
        go_wp2
        go_ret2
        exact RetVE.mk rfl (OwnV.nil _ _ _ _) (Below.refl _ _)
  by_cases h0 : n = 0
  · subst h0
    have HD := Lib.hid (decnone_any s w)
    clear hn
    generalize decX s 0 = R at *
    go_enter Tryz.func88, Tryz.ntmps88
    go_wp2_with fail
    refine HD.out.mono ?_; rintro e w1 ⟨v, rfl, hown, hb⟩
    go_wp2
    go_ret2
    exact RetVE.mk rfl hown hb
  obtain ⟨n, rfl⟩ : ∃ k : Nat, n = k := ⟨n.toNat, by omega⟩
  have hn' : n ≤ 4096 := by omega
  have hn1 : 1 ≤ n := by omega
  have hmx : s.size ≤ maxLen := by unfold maxLen; omega
  have hd0 : decide ((4096 : Int) < (n : Int)) = false := decide_eq_false (by omega)
  have hd1 : ((n : Int) == 0) = false := beq_eq_false_iff_ne.2 (by omega)
  clear hn
  obtain ⟨a, b, e, hg⟩ : ∃ a b e, getR s 0 = (a, b, e) := ⟨_, _, _, rfl⟩
  by_cases he : e = 0
  · subst he
    obtain ⟨p, hp⟩ : ∃ p : Nat, b = p := by
      obtain ⟨k, m, _, h2, _, h3, _⟩ := getR_zero hg
      exact ⟨k + m, by omega⟩
    subst hp
    rw [decX_go hn' (by omega) hg]
    have HG := Lib.hid (getsig_ok s 0 w hmx hg)
    have hmk := run_make0 (P := Tryz.prog) (z := .int .i64 0) rfl Tryz.underlying70 Tryz.infI64 n (by omega) (by unfold maxLen; omega) w
    have hrow : RowV (Value.int .i64) 2 (w.alloc (.cells (madeCells #[.int .i64 0] n) 2)) w.heap.size w.heap.size n [] := OwnV.made0 (Value.int .i64) (.int .i64 0) 2 w w.heap.size n (Nat.le_refl _) (by unfold maxLen; omega)
    have hb0 : Below w.heap.size w (w.alloc (.cells (madeCells #[.int .i64 0] n) 2)) := (Below.refl _ _).alloc (Nat.le_refl _) _
    clear hg h0
    generalize hW : (w.alloc (.cells (madeCells #[.int .i64 0] n) 2)) = W1 at hrow hb0
    rw [hW] at hmk
    clear hW
    generalize zagN (a : Int) = z at *
    generalize hR : decB s (n - 1) p [z] = R
    have HR := Lib.hid hR; clear hR
    have hsz1 := hb0.size
    go_enter Tryz.func88, Tryz.ntmps88
    go_wp2_with (first
      | (go_at_call 114; (with_reducible refine HG.out.mono ?_); rintro e w' ⟨rfl, rfl⟩)
      | (at_builtin; refine wpl_appR (f := Value.int .i64) (fun _ => rfl) (.int .i64 0) rfl _ _ 70 rfl w.heap.size 2 8 Tryz.underlying70 Tryz.infI64 w.heap.size n [] rfl (hrow.alloc _) _ _ z rfl (RdV.one _ _ _ _ _ (by decide) (by decide)) hn1 ?_; intro w2 hrow2 hb2 _; have hb := (hb0.alloc hsz1 (.cells #[.int .i64 z] 2)).trans hb2; clear hrow hb2 hb0 hsz1 hmk))
    go_loopw [7, 9] (fun a v wr => ∃ (p : Nat) (ls : List Int), a = .int .i64 p ∧ v = .slice (some ⟨w.heap.size, 0, none⟩) ls.length n ∧ 1 ≤ ls.length ∧ ls.length ≤ n ∧ RowV (Value.int .i64) 2 wr w.heap.size w.heap.size n ls ∧ decB s (n - ls.length) p ls = R ∧ Below w.heap.size w wr) (fun _ v _ => n - lenS v)
    case atStart => exact ⟨p, [z], rfl, rfl, Nat.le_refl _, hn1, hrow2, HR.out, hb⟩
    case round =>
      clear hrow2 hb HR HG
      obtain ⟨p, ls, rfl, rfl, hl1, hln, hrow, hdec, hbel⟩ := hrel
      have HD := Lib.hid hdec; clear hdec
      by_cases hlt : ls.length < n
      · obtain ⟨m, hm⟩ : ∃ m, n = ls.length + m := ⟨n - ls.length, by omega⟩
        have hmi : (n : Int) - (ls.length : Int) = (m : Int) := by omega
        have hm0 : 1 ≤ m := by omega
        have hmm : n - ls.length = m := by omega
        rw [hmm] at HD
        have HM := Lib.hid hm
        clear hm hmm
        by_cases h32 : m ≤ 32
        · have hcm : min m 32 = m := by omega
          obtain ⟨d, q, e, hg⟩ : ∃ d q e, getB s p m = (d, q, e) := ⟨_, _, _, rfl⟩
          have HC : Hid (Calls Tryz.prog 115 #[.string s, .int .i64 p, .int .i64 (m:Int)] wr (RetGB 2 d q e wr)) := Lib.hid (getblock_is s p m wr hs (by omega) (by omega) hg)
          by_cases he : e = 0
          · subst he
            have hdl := getB_zero hg
            have hfin := (decB_go (l := ls) (by omega) hcm hg).symm.trans HD.out
            have HF := Lib.hid hfin
            clear hfin HD hcm hg
            go_wp2_with fail
            refine HC.out.mono ?_; rintro e w1 ⟨v1, rfl, hown1, hb1⟩
            rcases hown1.forms with ⟨_, hd0⟩ | ⟨gd, cd, rfl, hrow1⟩
            · exfalso
              have : d.length = 0 := by rw [hd0]; rfl
              omega
            have hgd := hrow1.lt
            have hgg := hrow.lt.2
            have hrow' := hrow.below hb1
            have hbel' := hbel.trans (hb1.mono hbel.size)
            have hcd := (hrow1.read)
            obtain ⟨_, _, hv1, hcd1, hcd2, _⟩ := hcd
            cases hv1
            unfold maxLen at hcd2
            have HDL := Lib.hid hdl
            have hd32 : d.length ≤ m ∧ m ≤ d.length := by omega
            clear HC hown1 hb1 hrow hbel hdl hmi
            go_wp2_with fail
            go_loopw [9, 62] (fun v i wk => ∃ (L : List Int) (j : Nat), v = .slice (some ⟨w.heap.size, 0, none⟩) L.length n ∧ i = .int .i64 j ∧ j ≤ d.length ∧ RowV (Value.int .i64) 2 wk w.heap.size w.heap.size n L ∧ L = acc ls (d.take j) ∧ RowV (Value.int .i64) 2 wk wr.heap.size gd cd d ∧ Below w.heap.size w wk) (fun _ i _ => d.length - (intOf i).toNat)
            case atStart => exact ⟨ls, 0, rfl, rfl, Nat.zero_le _, hrow', rfl, hrow1, hbel'⟩
            case round =>
              clear hrow' hrow1 hbel'
              obtain ⟨L, j, rfl, rfl, hj, hrowL, hL, hrowd, hbelk⟩ := hrel
              have hLl : L.length = ls.length + j := by
                rw [hL, acc_len, List.length_take]; omega
              have hLn : L.length ≤ ls.length + j ∧ ls.length + j ≤ L.length := by omega
              have HL := Lib.hid hL
              clear hL
              by_cases hjl : j < d.length
              · have hlj : d[j]? = some (d[j]'hjl) := List.getElem?_eq_getElem _
                have hgx := hrowd.cell j _ hlj
                have HSN := Lib.hid (acc_snoc ls hlj)
                clear hlj
                generalize d[j]'hjl = x at *
                have hla : L[L.length - 1]? = some (L[L.length - 1]'(by omega)) := List.getElem?_eq_getElem _
                have hgy := hrowL.cell (L.length - 1) _ hla
                have HLA := Lib.hid (last_of hla)
                clear hla
                generalize L[L.length - 1]'_ = y at *
                have hL1 : 1 ≤ L.length := by omega
                have hLr : L.length + 1 ≤ n := by have := HM.out; omega
                have hszk := hbelk.size
                clear hLl
                go_wp2_with (at_builtin; refine wpl_appR (f := Value.int .i64) (fun _ => rfl) (.int .i64 0) rfl _ _ 70 rfl w.heap.size 2 8 Tryz.underlying70 Tryz.infI64 w.heap.size n L rfl (hrowL.alloc _) _ _ (wrap64 (y + x)) rfl (RdV.one _ _ _ _ _ (by decide) (by decide)) hLr ?_; intro w3 hrow3 hb3 hg3; have hrowd3 := (hrowd.alloc (.cells #[.int .i64 (wrap64 (y + x))] 2)).keep hg3 (fun e => by have := Option.some.inj e; omega); have hbel3 := (hbelk.alloc hszk (.cells #[.int .i64 (wrap64 (y + x))] 2)).trans hb3; clear hrowL hrowd hb3 hg3)
                go_roundw
                case rel => exact ⟨L ++ [wrap64 (y + x)], j + 1, by rw [List.length_append]; rfl, by go_num, hjl, hrow3, by rw [HSN.out, ← HL.out, HLA.out], hrowd3, hbel3⟩
                case measure => simp [intOf] <;> omega
              · have hLf : L = acc ls d := by rw [HL.out, List.take_of_length_le (by omega)]
                have hmc : m - m = n - L.length := by have := HM.out; omega
                have HLF := Lib.hid hLf
                have hfin : decB s (n - L.length) q L = R := by rw [← hmc, hLf]; exact HF.out
                have HFI := Lib.hid hfin
                have hLn2 : 1 ≤ L.length ∧ L.length ≤ n := by have := HM.out; omega
                clear hLl hLf hmc hfin
                go_wp2_with fail
                go_roundw
                case rel => exact ⟨q, L, rfl, rfl, hLn2.1, hLn2.2, hrowL, HFI.out, hbelk⟩
                case measure => simp only [lenS]; have := HM.out; omega
          · have hR := HD.out
            rw [decB_e (by omega) hcm hg he] at hR
            have HRR := Lib.hid hR
            have hd : ((e : Int) != 0) = true := by simp; omega
            clear hR hg hcm he
            go_wp2_with fail
            refine HC.out.mono ?_; rintro e w1 ⟨v1, rfl, _, hb1⟩
            have hbel1 := hbel.trans (hb1.mono hbel.size)
            clear HC hb1
            go_wp2
            go_ret2
            rw [← HRR.out]
            exact RetVE.mk rfl (OwnV.nil _ _ _ _) hbel1
        · have hcm : min m 32 = 32 := by omega
          obtain ⟨d, q, e, hg⟩ : ∃ d q e, getB s p 32 = (d, q, e) := ⟨_, _, _, rfl⟩
          have HC : Hid (Calls Tryz.prog 115 #[.string s, .int .i64 p, .int .i64 32] wr (RetGB 2 d q e wr)) := Lib.hid (getblock_is s p 32 wr hs (by omega) (by omega) hg)
          by_cases he : e = 0
          · subst he
            have hdl := getB_zero hg
            have hfin := (decB_go (l := ls) (by omega) hcm hg).symm.trans HD.out
            have HF := Lib.hid hfin
            clear hfin HD hcm hg
            go_wp2_with fail
            refine HC.out.mono ?_; rintro e w1 ⟨v1, rfl, hown1, hb1⟩
            rcases hown1.forms with ⟨_, hd0⟩ | ⟨gd, cd, rfl, hrow1⟩
            · exfalso
              have : d.length = 0 := by rw [hd0]; rfl
              omega
            have hgd := hrow1.lt
            have hgg := hrow.lt.2
            have hrow' := hrow.below hb1
            have hbel' := hbel.trans (hb1.mono hbel.size)
            have hcd := (hrow1.read)
            obtain ⟨_, _, hv1, hcd1, hcd2, _⟩ := hcd
            cases hv1
            unfold maxLen at hcd2
            have HDL := Lib.hid hdl
            have hd32 : d.length ≤ 32 ∧ 32 ≤ d.length := by omega
            clear HC hown1 hb1 hrow hbel hdl hmi
            go_wp2_with fail
            go_loopw [9, 62] (fun v i wk => ∃ (L : List Int) (j : Nat), v = .slice (some ⟨w.heap.size, 0, none⟩) L.length n ∧ i = .int .i64 j ∧ j ≤ d.length ∧ RowV (Value.int .i64) 2 wk w.heap.size w.heap.size n L ∧ L = acc ls (d.take j) ∧ RowV (Value.int .i64) 2 wk wr.heap.size gd cd d ∧ Below w.heap.size w wk) (fun _ i _ => d.length - (intOf i).toNat)
            case atStart => exact ⟨ls, 0, rfl, rfl, Nat.zero_le _, hrow', rfl, hrow1, hbel'⟩
            case round =>
              clear hrow' hrow1 hbel'
              obtain ⟨L, j, rfl, rfl, hj, hrowL, hL, hrowd, hbelk⟩ := hrel
              have hLl : L.length = ls.length + j := by
                rw [hL, acc_len, List.length_take]; omega
              have hLn : L.length ≤ ls.length + j ∧ ls.length + j ≤ L.length := by omega
              have HL := Lib.hid hL
              clear hL
              by_cases hjl : j < d.length
              · have hlj : d[j]? = some (d[j]'hjl) := List.getElem?_eq_getElem _
                have hgx := hrowd.cell j _ hlj
                have HSN := Lib.hid (acc_snoc ls hlj)
                clear hlj
                generalize d[j]'hjl = x at *
                have hla : L[L.length - 1]? = some (L[L.length - 1]'(by omega)) := List.getElem?_eq_getElem _
                have hgy := hrowL.cell (L.length - 1) _ hla
                have HLA := Lib.hid (last_of hla)
                clear hla
                generalize L[L.length - 1]'_ = y at *
                have hL1 : 1 ≤ L.length := by omega
                have hLr : L.length + 1 ≤ n := by have := HM.out; omega
                have hszk := hbelk.size
                clear hLl
                go_wp2_with (at_builtin; refine wpl_appR (f := Value.int .i64) (fun _ => rfl) (.int .i64 0) rfl _ _ 70 rfl w.heap.size 2 8 Tryz.underlying70 Tryz.infI64 w.heap.size n L rfl (hrowL.alloc _) _ _ (wrap64 (y + x)) rfl (RdV.one _ _ _ _ _ (by decide) (by decide)) hLr ?_; intro w3 hrow3 hb3 hg3; have hrowd3 := (hrowd.alloc (.cells #[.int .i64 (wrap64 (y + x))] 2)).keep hg3 (fun e => by have := Option.some.inj e; omega); have hbel3 := (hbelk.alloc hszk (.cells #[.int .i64 (wrap64 (y + x))] 2)).trans hb3; clear hrowL hrowd hb3 hg3)
                go_roundw
                case rel => exact ⟨L ++ [wrap64 (y + x)], j + 1, by rw [List.length_append]; rfl, by go_num, hjl, hrow3, by rw [HSN.out, ← HL.out, HLA.out], hrowd3, hbel3⟩
                case measure => simp [intOf] <;> omega
              · have hLf : L = acc ls d := by rw [HL.out, List.take_of_length_le (by omega)]
                have hmc : m - 32 = n - L.length := by have := HM.out; omega
                have HLF := Lib.hid hLf
                have hfin : decB s (n - L.length) q L = R := by rw [← hmc, hLf]; exact HF.out
                have HFI := Lib.hid hfin
                have hLn2 : 1 ≤ L.length ∧ L.length ≤ n := by have := HM.out; omega
                clear hLl hLf hmc hfin
                go_wp2_with fail
                go_roundw
                case rel => exact ⟨q, L, rfl, rfl, hLn2.1, hLn2.2, hrowL, HFI.out, hbelk⟩
                case measure => simp only [lenS]; have := HM.out; omega
          · have hR := HD.out
            rw [decB_e (by omega) hcm hg he] at hR
            have HRR := Lib.hid hR
            have hd : ((e : Int) != 0) = true := by simp; omega
            clear hR hg hcm he
            go_wp2_with fail
            refine HC.out.mono ?_; rintro e w1 ⟨v1, rfl, _, hb1⟩
            have hbel1 := hbel.trans (hb1.mono hbel.size)
            clear HC hb1
            go_wp2
            go_ret2
            rw [← HRR.out]
            exact RetVE.mk rfl (OwnV.nil _ _ _ _) hbel1
      · by_cases hps : p < s.size
        · have hR := HD.out
          rw [decB_left (by omega) (by omega)] at hR
          have HRR := Lib.hid hR; clear hR
          go_wp2
          go_ret2
          rw [← HRR.out]
          exact RetVE.mk rfl (OwnV.nil _ _ _ _) hbel
        · have hR := HD.out
          rw [decB_done (by omega) (by omega)] at hR
          have HRR := Lib.hid hR; clear hR
          go_wp2
          go_ret2
          rw [← HRR.out]
          exact RetVE.mk rfl hrow.own hbel
  · rw [decX_e (by omega) (by omega) hg he]
    have HG := Lib.hid (getsig_e s 0 w hmx hg he)
    have hd : ((e : Int) != 0) = true := by simp; omega
    clear hg he h0
    go_enter Tryz.func88, Tryz.ntmps88
    go_wp2_with (go_at_call 114; (with_reducible refine HG.out.mono ?_); rintro e w' ⟨rfl, rfl⟩)
    go_ret2
    exact RetVE.mk rfl (OwnV.nil _ _ _ _) (Below.refl _ _)
end Go.Proofs.YtbolbbngncnecaaGreat
