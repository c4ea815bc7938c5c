/- Differences: the list of differences of neighbours, a block's least difference, offsets and width, the encoding of a list, and what Decode finds in a text. -/
import Derived.Test.YtnmlajmaffiigaaGreatDoorGr
import Derived.Test.YtnmlajmaffiigaaGreatDoorGn
import Derived.Test.YtnmlajmaffiigaaGreatDoorGq
import Derived.Test.YtnmlajmaffiigaaGreatDoorGo
import Derived.Test.YtnmlajmaffiigaaGreatDoorGd
import Derived.StillTailTactics
import Derived.Deep.RegionWith
namespace Go.DL
open Go.RowKit Go.VB Go.VarM Go.BP Go.RL Go.Proofs.YtnmlajmaffiigaaGreatDoor

theorem wrap_bd (z : Int) : -9223372036854775808 ≤ wrap64 z ∧ wrap64 z ≤ 9223372036854775807 := by unfold wrap64; omega
/-- The differences of neighbours, with sign, modulo 2^64. -/
def df : List Int → List Int
  | [] => []
  | [_] => []
  | x :: y :: r => wrap64 (y - x) :: df (y :: r)
theorem df_len : ∀ l : List Int, (df l).length = l.length - 1
  | [] => rfl
  | [_] => rfl
  | x :: y :: r => by rw [df, List.length_cons, df_len (y :: r)]; simp
theorem df_at : ∀ {l : List Int} {i : Nat} {x y : Int}, l[i]? = some x → l[i + 1]? = some y → (df l)[i]? = some (wrap64 (y - x))
  | [], i, x, y, h, _ => by simp at h
  | [a], i, x, y, _, h => by simp at h
  | a :: b :: r, 0, x, y, h1, h2 => by
    simp at h1 h2; subst h1; subst h2; rfl
  | a :: b :: r, i + 1, x, y, h1, h2 => by
    rw [df, List.getElem?_cons_succ]
    exact df_at (l := b :: r) (by simpa using h1) (by simpa using h2)
theorem df_i64 : ∀ l : List Int, I64 (df l)
  | [], z, hz => by simp [df] at hz
  | [_], z, hz => by simp [df] at hz
  | x :: y :: r, z, hz => by
    rw [df] at hz
    rcases List.mem_cons.1 hz with h | h
    · rw [h]; exact wrap_bd _
    · exact df_i64 (y :: r) z h

/-! least and greatest -/
theorem minl_le : ∀ (l : List Int) (v : Int), l.foldl min v ≤ v ∧ ∀ x ∈ l, l.foldl min v ≤ x
  | [], v => ⟨Int.le_refl _, fun _ h => by simp at h⟩
  | y :: l, v => by
    obtain ⟨h1, h2⟩ := minl_le l (min v y)
    rw [List.foldl_cons]
    refine ⟨by omega, fun x hx => ?_⟩
    rcases List.mem_cons.1 hx with h | h
    · subst h; omega
    · exact h2 x h
theorem minl_in : ∀ (l : List Int) (v : Int), l.foldl min v = v ∨ l.foldl min v ∈ l
  | [], v => .inl rfl
  | y :: l, v => by
    rw [List.foldl_cons]
    rcases minl_in l (min v y) with h | h
    · rcases Int.le_total v y with hv | hv
      · left; omega
      · right; rw [h, Int.min_eq_right hv]; exact List.mem_cons_self ..
    · right; exact List.mem_cons_of_mem _ h
/-- The least element. -/
def lst (d : List Int) : Int := d.foldl min (d.headD 0)
theorem lst_le {d : List Int} {x : Int} (h : x ∈ d) : lst d ≤ x := (minl_le d _).2 x h
theorem lst_in {d : List Int} (h : d ≠ []) : lst d ∈ d := by
  unfold lst
  rcases minl_in d (d.headD 0) with e | e
  · rw [e]
    cases d with
    | nil => exact absurd rfl h
    | cons x d => exact List.mem_cons_self ..
  · exact e
theorem maxn_ge : ∀ (l : List Nat) (v : Nat), v ≤ l.foldl max v ∧ ∀ x ∈ l, x ≤ l.foldl max v
  | [], v => ⟨Nat.le_refl _, fun _ h => by simp at h⟩
  | y :: l, v => by
    obtain ⟨h1, h2⟩ := maxn_ge l (max v y)
    rw [List.foldl_cons]
    refine ⟨by omega, fun x hx => ?_⟩
    rcases List.mem_cons.1 hx with h | h
    · subst h; omega
    · exact h2 x h
theorem maxn_in : ∀ (l : List Nat) (v : Nat), l.foldl max v = v ∨ l.foldl max v ∈ l
  | [], v => .inl rfl
  | y :: l, v => by
    rw [List.foldl_cons]
    rcases maxn_in l (max v y) with h | h
    · rcases Nat.le_total y v with hv | hv
      · left; omega
      · right; rw [h, Nat.max_eq_right hv]; exact List.mem_cons_self ..
    · right; exact List.mem_cons_of_mem _ h
/-- The least and the greatest number. -/
def lo (u : List Nat) : Nat := u.foldl min (u.headD 0)
def gr (u : List Nat) : Nat := u.foldl max (u.headD 0)
theorem head_in {u : List Nat} (h : u ≠ []) : u.headD 0 ∈ u := by
  cases u with
  | nil => exact absurd rfl h
  | cons x d => exact List.mem_cons_self ..
theorem gr_ge {u : List Nat} {x : Nat} (h : x ∈ u) : x ≤ gr u := (maxn_ge u _).2 x h
theorem gr_in {u : List Nat} (h : u ≠ []) : gr u ∈ u := by
  unfold gr
  rcases maxn_in u (u.headD 0) with e | e
  · rw [e]; exact head_in h
  · exact e
theorem fold_snoc {α β : Type} (f : β → α → β) (v : β) {l : List α} {j : Nat} {x : α} (hx : l[j]? = some x) : (l.take (j + 1)).foldl f v = f ((l.take j).foldl f v) x := by
  rw [List.take_add_one, hx, List.foldl_append]; rfl
theorem lt_wid (a : Nat) : a < 2 ^ wid a := (wid_le _ _).1 (Nat.le_refl _)

/-! a block -/
/-- The offsets of a block. -/
def off (m : Int) (d : List Int) : List Nat := d.map fun x => (x - m).toNat
theorem off_len (m : Int) (d : List Int) : (off m d).length = d.length := List.length_map _
theorem off_at {m : Int} {d : List Int} {i : Nat} {x : Int} (h : d[i]? = some x) : (off m d)[i]? = some (x - m).toNat := by unfold off; rw [List.getElem?_map, h]; rfl
def offs (d : List Int) : List Nat := off (lst d) d
def wd (d : List Int) : Nat := wid (gr (offs d))
theorem offs_len (d : List Int) : (offs d).length = d.length := off_len _ _
theorem offs_ne {d : List Int} (h : d ≠ []) : offs d ≠ [] := by unfold offs off; simpa using h
theorem off_lt {m : Int} {d : List Int} (h : I64 d) (hm : -9223372036854775808 ≤ m) : ∀ x ∈ off m d, x < 18446744073709551616 := by
  intro x hx
  simp only [off, List.mem_map] at hx
  obtain ⟨y, hy, rfl⟩ := hx
  have := h y hy
  omega
theorem lst_bd {d : List Int} (h : I64 d) (hd : d ≠ []) : -9223372036854775808 ≤ lst d ∧ lst d ≤ 9223372036854775807 := h _ (lst_in hd)
theorem offs_lt {d : List Int} (h : I64 d) (hd : d ≠ []) : ∀ x ∈ offs d, x < 18446744073709551616 := off_lt h (lst_bd h hd).1
theorem wd_le {d : List Int} (h : I64 d) (hd : d ≠ []) : wd d ≤ 64 := wid_64 (offs_lt h hd _ (gr_in (offs_ne hd)))
theorem offs_wd (d : List Int) : ∀ x ∈ offs d, x < 2 ^ wd d := fun _ hx => Nat.lt_of_le_of_lt (gr_ge hx) (lt_wid _)
/-- The bytes of a block. -/
def blk (d : List Int) : List UInt8 := putL (zigN (lst d)).toNat ++ [UInt8.ofNat (wd d)] ++ packed (offs d) (wd d)
theorem need8 {c w : Nat} (h : w ≤ 64) : (c * w + 7) / 8 ≤ 8 * c := by
  have : c * w ≤ c * 64 := Nat.mul_le_mul_left _ h
  omega
theorem blk_len {d : List Int} (h : I64 d) (hd : d ≠ []) : (blk d).length ≤ 11 + 8 * d.length := by
  have h1 := putL_len10 (zig_lt (lst_bd h hd))
  have h2 := need8 (c := d.length) (wd_le h hd)
  unfold blk
  rw [List.length_append, List.length_append, packed_len, offs_len]
  simp only [List.length_cons, List.length_nil]
  omega
/-- The encoding of the differences. -/
def encB (d : List Int) : List UInt8 := if d.length = 0 then [] else blk (d.take 32) ++ encB (d.drop 32)
termination_by d.length
decreasing_by rw [List.length_drop]; omega
theorem encB_nil : encB [] = [] := by rw [encB]; simp
theorem encB_go {d : List Int} (h : d ≠ []) : encB d = blk (d.take 32) ++ encB (d.drop 32) := by
  rw [encB, if_neg]
  intro e; exact h (List.eq_nil_of_length_eq_zero e)
theorem take_ne {d : List Int} (h : d ≠ []) : d.take 32 ≠ [] := by
  cases d with
  | nil => exact absurd rfl h
  | cons x d => simp
theorem i64_take {d : List Int} (h : I64 d) (n : Nat) : I64 (d.take n) := fun z hz => h z (List.mem_of_mem_take hz)
theorem encB_len : ∀ (n : Nat) (d : List Int), d.length ≤ n → I64 d → (encB d).length ≤ 19 * d.length
  | 0, d, hn, _ => by
    have : d = [] := List.eq_nil_of_length_eq_zero (by omega)
    subst this; rw [encB_nil]; simp
  | n + 1, d, hn, hi => by
    by_cases h : d = []
    · subst h; rw [encB_nil]; simp
    · have h1 := blk_len (i64_take hi 32) (take_ne h)
      have hl : 0 < d.length := List.length_pos_iff.2 h
      have h2 := encB_len n (d.drop 32) (by rw [List.length_drop]; omega) (hi.drop 32)
      rw [encB_go h, List.length_append]
      rw [List.length_drop] at h2
      rw [List.length_take] at h1
      omega
/-- The encoding of a list. -/
def encL (l : List Int) : List UInt8 := match l with
  | [] => []
  | x :: _ => putL (zigN x).toNat ++ encB (df l)
def encX (l : List Int) : List UInt8 := if 4096 < l.length then [] else encL l
theorem encX_out {l : List Int} (h : 4096 < l.length) : encX l = [] := by unfold encX; rw [if_pos h]
theorem encX_in {x : Int} {l : List Int} (h : (x :: l).length ≤ 4096) : encX (x :: l) = putL (zigN x).toNat ++ encB (df (x :: l)) := by
  unfold encX; rw [if_neg (by omega)]; rfl
theorem encX_len {l : List Int} (hi : I64 l) : (encX l).length ≤ 77834 := by
  by_cases h : 4096 < l.length
  · rw [encX_out h]; decide
  · cases l with
    | nil => decide
    | cons x r =>
      rw [encX_in (by omega), List.length_append]
      have h1 := putL_len10 (zig_lt hi.head)
      have h2 := encB_len _ (df (x :: r)) (Nat.le_refl _) (df_i64 _)
      have h3 := df_len (x :: r)
      omega

/-! reading -/
/-- Whether these are the offsets of a block with the least difference m, packed with w bits. -/
def okO (u : List Nat) (w : Nat) (m : Int) : Prop := lo u = 0 ∧ wid (gr u) = w ∧ m + gr u ≤ 9223372036854775807
instance (u : List Nat) (w : Nat) (m : Int) : Decidable (okO u w m) := by unfold okO; infer_instance
section
variable {s : ByteArray} {p : Int} {c a b w n : Nat}
end
/-- The list with its next elements. -/
def acc (l d : List Int) : List Int := d.foldl (fun l x => l ++ [wrap64 (l.getLastD 0 + x)]) l
section
variable {s : ByteArray} {m : Nat} {p : Int} {l : List Int}
end
/-! what was encoded is read again -/
/-! equal differences -/
/-- The list of n numbers from v on with equal steps. -/
def stp (t : Int) : Nat → Int → List Int
  | 0, _ => []
  | n + 1, v => v :: stp t n (wrap64 (v + t))
end Go.DL

namespace Go.VB
open Go.RowKit
section
variable {α : Type} {f : α → Value} {e : TypeId} {w w' : World} {l m : List α} {base g c : Nat}
/-- It returns a list of its own, at its array's head and without room behind it; what was there is as it was. -/
def RetG (f : α → Value) (e : TypeId) (l : List α) (w : World) : Ending → World → Prop := fun en w' =>
  ∃ g, en = .returned (.slice (some ⟨g, 0, none⟩) l.length l.length) ∧ RowV f e w' w.heap.size g l.length l ∧ Below w.heap.size w w'
theorem RetG.mk {x : Value} (hx : x = .slice (some ⟨g, 0, none⟩) l.length l.length) (ho : RowV f e w' w.heap.size g l.length l) (hb : Below w.heap.size w w') : RetG f e l w (.returned x) w' := ⟨g, by rw [hx], ho, hb⟩
/-- A part of a row, from place k on. -/
theorem RowV.part (h : RowV f e w base g c l) {k cc : Nat} (hm : ∀ i x, m[i]? = some x → l[k + i]? = some x) (h1 : m.length ≤ cc) (h2 : cc ≤ maxLen) : RdV f w w.heap.size (.slice (some ⟨g, k, none⟩) m.length cc) m := by
  refine ⟨_, cc, rfl, h1, h2, fun i x hx => ⟨_, rfl, h.lt.2, ?_⟩⟩
  rw [Addr.add_lit]
  exact h.cell _ _ (hm i x hx)
theorem RowV.keep {row : Option Nat} (h : RowV f e w base g c l) (hg : w.grownBy w' row) (hne : row ≠ some g) : RowV f e w' base g c l :=
  World.ownsRow.kept h hg (.inr (by simp only [Value.ownBlock]; exact fun e => hne e.symm))
end
end Go.VB
namespace Go.Proofs.YtnmlajmaffiigaaGreatDoor
open Go.RowKit Go.VB Go.VarM Go.BP Go.RL Go.DL
set_option maxHeartbeats 400000 in
theorem putsig_any (x : Int) (w : World) (hx : -9223372036854775808 ≤ x ∧ x ≤ 9223372036854775807) :
    Calls Tryz.prog 230 #[.int .i64 x] w (RetB (.string (str (putL (zigN x).toNat))) w) := by
  obtain ⟨z, hz1, hz2, hz3⟩ := zig_nat hx
  have HZ := fun w => vzig_any x w hx.1 hx.2
  rw [hz1] at HZ
  rw [hz2]
  have HZZ := fun w => Lib.hid (HZ w)
  have HP := fun w => Lib.hid (vput_any z w hz3)
  clear HZ hz1 hz2
  go_enter Tryz.func230, Tryz.ntmps230
  go_wp2_with (first
    | (go_at_call 159; (with_reducible refine (HZZ _).out.mono ?_); rintro e w' ⟨rfl, rfl⟩)
    | (go_at_call 83; (with_reducible refine (HP _).out.mono ?_); rintro e w3 ⟨rfl, hb⟩))
  go_ret
  exact RetB.mk rfl hb
set_option maxRecDepth 100000 in
set_option maxHeartbeats 1000000 in
theorem lag_any (v : Value) (u : List Nat) (B : Nat) (w : World) (hr : RdN .u64 w B v u) (hB : B ≤ w.heap.size) (h0 : 0 < u.length) (h64 : ∀ x ∈ u, x < 18446744073709551616) :
    Calls Tryz.prog 254 #[v] w (RetB (.tuple #[.int .u64 (lo u : Nat), .int .u64 (gr u : Nat)]) w) := by
  obtain ⟨A, c, rfl, hc1, hc2, hr'⟩ := hr
  have hr : RdN .u64 w B (.slice A u.length c) u := ⟨A, c, rfl, hc1, hc2, hr'⟩
  unfold maxLen at hc2
  obtain ⟨ad, rfl, hab, hg0⟩ := hr' 0 h0
  rw [addr_zero] at hg0
  have hh : u.getD 0 0 = u.headD 0 := by cases u <;> rfl
  rw [hh] at hg0
  have hl : u.foldl min (u.headD 0) = lo u := rfl
  have hm : u.foldl max (u.headD 0) = gr u := rfl
  generalize u.headD 0 = q at *
  generalize lo u = L at *
  generalize gr u = G at *
  clear hr' hh
  have HR := Lib.hid hr; have HL := Lib.hid hl; have HM := Lib.hid hm; have H64 := Lib.hid h64
  clear hr hl hm h64
  go_enter Tryz.func254, Tryz.ntmps254
  go_wp2_with fail
  go_region
  go_wp2_with fail
  go_loopw [4, 5, 16] (fun a b i wr => ∃ (x y j : Nat), a = .int .u64 x ∧ b = .int .u64 y ∧ i = .int .i64 j ∧ j ≤ u.length ∧ (u.take j).foldl min q = x ∧ (u.take j).foldl max q = y ∧ Below w.heap.size w wr) (fun _ _ i _ => u.length - (intOf i).toNat)
  case atStart => exact ⟨q, q, 0, rfl, rfl, rfl, Nat.zero_le _, rfl, rfl, (Below.refl _ _).drew⟩
  case round =>
    clear hg0
    obtain ⟨x, y, j, rfl, rfl, rfl, hj, hx, hy, hbel⟩ := hrel
    have HX := Lib.hid hx; have HY := Lib.hid hy
    clear hx hy
    by_cases hlt : j < u.length
    · obtain ⟨_, _, hv1, _, _, hcx⟩ := HR.out.below (hbel.mono hB)
      cases hv1
      obtain ⟨ad', e1, _, hgx⟩ := hcx j hlt
      cases e1
      have hlj : u[j]? = some (u.getD j 0) := by rw [List.getD_eq_getElem?_getD, List.getElem?_eq_getElem hlt]; rfl
      have HS1 := Lib.hid (fold_snoc min q hlj)
      have HS2 := Lib.hid (fold_snoc max q hlj)
      clear hcx hlj
      generalize u.getD j 0 = V at *
      go_wp2_with fail
      go_roundw
      case rel => exact ⟨min x V, max y V, j + 1, vint (by split <;> omega), vint (by split <;> omega), by go_num, hlt, by rw [HS1.out, HX.out], by rw [HS2.out, HY.out], hbel⟩
      case measure => simp [intOf] <;> omega
    · have hx : x = L := by rw [← HX.out, ← HL.out, List.take_of_length_le (by omega)]
      have hy : y = G := by rw [← HY.out, ← HM.out, List.take_of_length_le (by omega)]
      subst hx; subst hy
      go_wp2
      go_ret2
      exact RetB.mk rfl hbel
theorem add_up (a : Addr) (j : Nat) : a.add (j + 1) = ⟨a.block, a.off + (j + 1), none⟩ := by unfold Addr.add; rw [if_neg (by omega)]
set_option maxRecDepth 100000 in
set_option maxHeartbeats 2000000 in
theorem diffs_any (v : Value) (l : List Int) (B : Nat) (w : World) (hr : RdV (Value.int .i64) w B v l) (hB : B ≤ w.heap.size) (h0 : 0 < l.length) (hl : l.length ≤ 4096) :
    Calls Tryz.prog 231 #[v] w (RetG (Value.int .i64) 2 (df l) w) := by
  obtain ⟨A, c, rfl, hc1, hc2, hr'⟩ := hr
  have hr : RdV (Value.int .i64) w B (.slice A l.length c) l := ⟨A, c, rfl, hc1, hc2, hr'⟩
  clear hr'
  unfold maxLen at hc2
  obtain ⟨n, hn⟩ : ∃ n, l.length = n + 1 := ⟨l.length - 1, by omega⟩
  have hdl : (df l).length = n := by rw [df_len, hn]; omega
  have hn' : (l.length : Int) - 1 = (n : Int) := by omega
  have hmk := run_makeV (P := Tryz.prog) (t := 197) (z := .int .i64 0) rfl Tryz.underlying197 Tryz.infI64 n (by omega) (by unfold maxLen; omega) w
  have hrow := RowV.made (Value.int .i64) 0 2 w w.heap.size n (Nat.le_refl _) (by unfold maxLen; omega)
  have hb2 := (Below.refl w.heap.size w).alloc (Nat.le_refl _) (.cells (madeCells #[.int .i64 0] n) 2)
  generalize w.alloc (.cells (madeCells #[.int .i64 0] n) 2) = w1 at hmk hrow hb2
  have HR := Lib.hid hr; have HN := Lib.hid hn; have HDL := Lib.hid hdl
  clear hr hdl
  go_enter Tryz.func231, Tryz.ntmps231
  go_wp2_with fail
  go_loopw [11] (fun i wr => ∃ (j : Nat) (L : List Int), i = .int .i64 j ∧ j ≤ n ∧ RowV (Value.int .i64) 2 wr w.heap.size w.heap.size n L ∧ L = (df l).take j ++ List.replicate (n - j) 0 ∧ Below w.heap.size w wr) (fun i _ => n - (intOf i).toNat)
  case atStart => exact ⟨0, _, rfl, Nat.zero_le _, hrow, fill_start (df l) n 0, hb2⟩
  case round =>
    clear hrow hb2 hmk
    obtain ⟨j, L, rfl, hj, hrow, hL, hbel⟩ := hrel
    have HL := Lib.hid hL; clear hL
    by_cases hjl : j < n
    · have hlj : l[j]? = some (l[j]'(by omega)) := List.getElem?_eq_getElem _
      have hlk : l[j + 1]? = some (l[j + 1]'(by omega)) := List.getElem?_eq_getElem _
      have hrd := HR.out.below (hbel.mono hB)
      obtain ⟨_, _, hv1, _, _, hcx⟩ := hrd
      cases hv1
      obtain ⟨ad, rfl, _, hgx⟩ := hcx _ _ hlj
      obtain ⟨_, e1, _, hgy⟩ := hcx _ _ hlk
      cases e1
      have hdf := df_at hlj hlk
      rw [add_up ad j] at hgy
      have HSE := Lib.hid (fill_set (z := 0) HDL.out hjl hdf)
      clear hcx hlj hlk
      generalize l[j]'_ = x at *
      generalize l[j + 1]'_ = y at *
      have hst : RowV (Value.int .i64) 2 (wr.setCell ⟨w.heap.size, j, none⟩ (.int .i64 (wrap64 (y - x)))) w.heap.size w.heap.size n (L.set j (wrap64 (y - x))) := hrow.store j (wrap64 (y - x))
      have hfr := hrow.frozen j
      have hlL : L.length = n := by rw [HL.out]; exact fill_len HDL.out hj
      have hLj : L[j]? = some (L[j]'(by omega)) := List.getElem?_eq_getElem _
      have hcl := hrow.cell j _ hLj
      generalize L[j]'_ = old at hcl
      have hbel2 : Below w.heap.size w (wr.setCell ⟨w.heap.size, j, none⟩ (.int .i64 (wrap64 (y - x)))) := hbel.setCell (p := ⟨w.heap.size, j, none⟩) (Nat.le_refl _) _
      have HST := Lib.hid hst; have HBE := Lib.hid hbel2
      clear hLj hst hbel2 hdf
      go_wp2_with fail
      go_region
      go_wp2_with fail
      go_roundw
      case rel => exact ⟨j + 1, L.set j (wrap64 (y - x)), by go_num, hjl, HST.out, by rw [HL.out]; exact HSE.out, HBE.out.drew⟩
      case measure => simp [intOf] <;> omega
    · have hjn : j = n := by omega
      have hfin : L = df l := by rw [HL.out, hjn]; exact fill_end HDL.out
      subst hfin
      go_wp2
      go_ret
      have hdl := HDL.out
      exact RetG.mk (g := w.heap.size) (by rw [hdl]; rfl) (by rw [hdl]; exact hrow) hbel
end Go.Proofs.YtnmlajmaffiigaaGreatDoor

namespace Go.DL
open Go.RowKit Go.VB Go.VarM Go.BP
theorem offs_at {d : List Int} {i : Nat} {x : Int} (h : d[i]? = some x) : (offs d)[i]? = some (x - lst d).toNat := off_at h
theorem run_add_parts {P : Program} (a b : List UInt8) (h : a.length + b.length ≤ 4611686018427387904) (w : World) : (Op.stringOp .add (str a) (str b)).run P w = .ok (.string (str (a ++ b))) w := by
  rw [run_string_add_sum w (str a) (str b) (by rw [str_size, str_size]; omega), str_append]
end Go.DL
namespace Go.Proofs.YtnmlajmaffiigaaGreatDoor
open Go.RowKit Go.VB Go.VarM Go.BP Go.RL Go.DL
set_option maxRecDepth 100000 in
set_option maxHeartbeats 4000000 in
theorem putblock_any (v : Value) (d : List Int) (B : Nat) (w : World) (hr : RdV (Value.int .i64) w B v d) (hB : B ≤ w.heap.size) (h0 : 0 < d.length) (hl : d.length ≤ 32) (hi : I64 d) :
    Calls Tryz.prog 232 #[v] w (RetB (.string (str (blk d))) w) := by
  obtain ⟨A, c, rfl, hc1, hc2, hr'⟩ := hr
  have hr : RdV (Value.int .i64) w B (.slice A d.length c) d := ⟨A, c, rfl, hc1, hc2, hr'⟩
  unfold maxLen at hc2
  have hne : d ≠ [] := List.ne_nil_of_length_pos h0
  obtain ⟨q, hq⟩ : ∃ q, d[0]? = some q := ⟨_, List.getElem?_eq_getElem h0⟩
  obtain ⟨ad, rfl, hab, hg0⟩ := hr' 0 q hq
  rw [addr_zero] at hg0
  have hhd : d.headD 0 = q := by cases d <;> simp_all
  have hlm : d.foldl min q = lst d := by rw [← hhd]; rfl
  have hmb := lst_bd hi hne
  have hol := offs_len d
  have hone := offs_ne hne
  have ho64 := offs_lt hi hne
  have hwl := wd_le hi hne
  have hpk := packR_ok (l := offs d) hwl (by rw [hol]; omega) (offs_wd d)
  have hwg : wid (gr (offs d)) = wd d := rfl
  have hg64 := ho64 _ (gr_in hone)
  have HOA := fun {i x} (h : d[i]? = some x) => offs_at h
  have hpl := packed_len (offs d) (wd d)
  have h8 := need8 (c := d.length) hwl
  rw [hol] at hpl
  have HLX := fun {x} (h : x ∈ d) => lst_le h
  have hT : putL (zigN (lst d)).toNat ++ [UInt8.ofNat (wd d)] ++ packed (offs d) (wd d) = blk d := rfl
  have hput := putL_len10 (zig_lt hmb)
  generalize hO : offs d = O at *
  generalize hM : lst d = M at *
  generalize hW : wd d = D at *
  generalize hBK : blk d = T at *
  have HPS := fun w' => Lib.hid (putsig_any M w' hmb)
  have HMK := fun w' => Lib.hid (run_makeN (P := Tryz.prog) Tryz.underlying228 Tryz.infoU64 d.length (by omega) (by unfold maxLen; omega) w')
  have HR := Lib.hid hr; have HLM := Lib.hid hlm; have HOA' := fun i x h => Lib.hid (@HOA i x h); have HI := Lib.hid hi
  have HPK := Lib.hid hpk; have HWG := Lib.hid hwg; have HO64 := Lib.hid ho64
  have HT := Lib.hid hT; have HPL := Lib.hid hpl; have HOL := Lib.hid hol; have HLY := fun x h => Lib.hid (@HLX x h); have HONE := Lib.hid hone
  clear HLX hr' hr hlm HOA hi hpk hwg ho64 hT hpl hol hone hO hM hW hBK
  go_enter Tryz.func232, Tryz.ntmps232
  go_wp2_with fail
  go_loopw [3, 19] (fun a i wr => ∃ (x : Int) (j : Nat), a = .int .i64 x ∧ i = .int .i64 j ∧ j ≤ d.length ∧ (d.take j).foldl min q = x ∧ Below w.heap.size w wr) (fun _ i _ => d.length - (intOf i).toNat)
  case atStart => exact ⟨q, 0, rfl, rfl, Nat.zero_le _, rfl, Below.refl _ _⟩
  case round =>
    clear hg0
    obtain ⟨x, j, rfl, rfl, hj, hx, hbel⟩ := hrel
    have HX := Lib.hid hx
    clear hx
    by_cases hlt : j < d.length
    · have hlj : d[j]? = some (d[j]'hlt) := List.getElem?_eq_getElem _
      obtain ⟨_, _, hv1, _, _, hcx⟩ := HR.out.below (hbel.mono hB)
      cases hv1
      obtain ⟨ad', e1, _, hgx⟩ := hcx j _ hlj
      cases e1
      have HS1 := Lib.hid (fold_snoc min q hlj)
      clear hcx hlj
      generalize d[j]'hlt = V at *
      go_wp2_with fail
      go_roundw
      case rel => exact ⟨min x V, j + 1, vint (by split <;> omega), by go_num, hlt, by rw [HS1.out, HX.out], hbel⟩
      case measure => simp [intOf] <;> omega
    · have hx : x = M := by rw [← HX.out, ← HLM.out, List.take_of_length_le (by omega)]
      subst hx
      obtain ⟨wo, hwo⟩ : ∃ wo, wo = wr := ⟨wr, rfl⟩
      subst hwo
      have hmk := (HMK wo).out
      have hrow := RowN.made .u64 96 wo wo.heap.size d.length (Nat.le_refl _) (by unfold maxLen; omega)
      have hb2 := (Below.refl wo.heap.size wo).alloc (Nat.le_refl _) (.cells (madeCells #[.int .u64 0] d.length) 96)
      generalize wo.alloc (.cells (madeCells #[.int .u64 0] d.length) 96) = w1 at hmk hrow hb2
      clear HMK HX
      go_wp2_with fail
      clear hmk
      go_loopw [32] (fun i wr => ∃ (j : Nat) (L : List Nat), i = .int .i64 j ∧ j ≤ d.length ∧ RowN .u64 96 wr wo.heap.size wo.heap.size d.length L ∧ L = O.take j ++ List.replicate (d.length - j) 0 ∧ Below wo.heap.size wo wr) (fun i _ => d.length - (intOf i).toNat)
      case atStart => exact ⟨0, _, rfl, Nat.zero_le _, hrow, fill_start O d.length 0, hb2⟩
      case round =>
        clear hrow hb2
        obtain ⟨j, L, rfl, hj, hrow, hL, hbk⟩ := hrel
        have HL := Lib.hid hL; clear hL
        by_cases hjl : j < d.length
        · have hlj : d[j]? = some (d[j]'hjl) := List.getElem?_eq_getElem _
          obtain ⟨_, _, hv1, _, _, hcx⟩ := HR.out.below ((hbel.trans (hbk.mono hbel.size)).mono hB)
          cases hv1
          obtain ⟨ad', e1, _, hgx⟩ := hcx j _ hlj
          cases e1
          have hoj := (HOA' _ _ hlj).out
          have HSE := Lib.hid (fill_set (z := 0) HOL.out hjl hoj)
          have hge := (HLY _ (List.mem_of_getElem? hlj)).out
          have hvb := HI.out.at hlj
          clear hcx hlj hoj
          generalize d[j]'hjl = V at *
          obtain ⟨o, ho⟩ : ∃ o : Nat, (V - x).toNat = o := ⟨_, rfl⟩
          rw [ho] at HSE
          have hE : IntKind.u64.wrap (IntKind.u64.wrap V - IntKind.u64.wrap x) = (o : Int) := by
            rw [IntKind.wrap_u64, IntKind.wrap_u64, IntKind.wrap_u64]; omega
          have hst : RowN .u64 96 (wr.setCell ⟨wo.heap.size, j, none⟩ (.int .u64 (o : Int))) wo.heap.size wo.heap.size d.length (L.set j o) := hrow.store j o
          have hfr := hrow.frozen j
          have hlL : L.length = d.length := by rw [HL.out]; exact fill_len HOL.out hj
          have hcl := hrow.cell j (by omega)
          generalize L.getD j 0 = old at hcl
          have hbel2 : Below wo.heap.size wo (wr.setCell ⟨wo.heap.size, j, none⟩ (.int .u64 (o : Int))) := hbk.setCell (p := ⟨wo.heap.size, j, none⟩) (Nat.le_refl _) _
          have HST := Lib.hid hst; have HBE := Lib.hid hbel2
          clear hst hbel2 ho hge hvb
          go_wp2_with fail
          go_roundw
          case rel => exact ⟨j + 1, L.set j o, by go_num, hjl, HST.out, by rw [HL.out]; exact HSE.out, HBE.out⟩
          case measure => simp [intOf] <;> omega
        · have hjn : j = d.length := by omega
          have hfin : L = O := by rw [HL.out, hjn]; exact fill_end HOL.out
          subst hfin
          have hrd : RdN .u64 wr wr.heap.size (.slice (some ⟨wo.heap.size, 0, none⟩) d.length d.length) L := by
            have h := hrow.read
            rw [HOL.out] at h
            exact h
          have hone := HONE.out
          have HLG := Lib.hid (lag_any _ L _ wr hrd (Nat.le_refl _) (List.length_pos_iff.2 hone) HO64.out)
          have HB := Lib.hid (hbel.trans (hbk.mono hbel.size))
          have HRD := Lib.hid hrd
          clear hrd hone hjn hrow hbel hbk
          go_wp2_with fail
          refine HLG.out.mono ?_; rintro e w2 ⟨rfl, hb2⟩
          have hrd2 := (HRD.out).step hb2
          have hB2 := bel_trans HB.out hb2
          clear HLG HRD HB hb2
          go_wp2_with fail
          refine (bwidth_any _ _ hg64).mono ?_; rintro e w' ⟨rfl, rfl⟩
          rw [HWG.out]
          go_wp2_with fail
          refine (bpack_eq _ L (D : Nat) _ _ hrd2 (Nat.le_refl _) HO64.out HPK.out).mono ?_; rintro e w3 ⟨rfl, hb3⟩
          replace hB2 := bel_trans hB2 hb3
          clear hrd2 hb3 HPK HO64
          go_wp2_with fail
          have hpl := HPL.out
          clear HL HOA' HWG HPL HOL HONE hg64 HLY HLM HI HR hjl hlt
          have hw8 : IntKind.u8.wrap (D : Int) = (D : Int) := by simp [IntKind.wrap, IntKind.bits, IntKind.signed]; omega
          have hcv1 := fun (W : World) m => run_string1 (P := Tryz.prog) 41 9 5 Tryz.underlying41 Tryz.underlying5 Tryz.underlying9 W (D : Int) m
          have hcv2 := fun (W : World) m => run_string1_drew (P := Tryz.prog) 41 9 5 Tryz.underlying41 Tryz.underlying5 Tryz.underlying9 W (D : Int) m
          have hcv3 := fun (W : World) (g : Nat) m h => run_string1_at (P := Tryz.prog) 41 9 5 Tryz.underlying41 Tryz.underlying5 Tryz.underlying9 W g (D : Int) m h
          simp only [Int.toNat_natCast] at hcv1 hcv2 hcv3
          have ha1 := fun w => run_add_parts (P := Tryz.prog) (putL (zigN x).toNat) [UInt8.ofNat D] (by simp only [List.length_cons, List.length_nil]; omega) w
          have ha2 := fun w => run_add_parts (P := Tryz.prog) (putL (zigN x).toNat ++ [UInt8.ofNat D]) (packed L D) (by rw [List.length_append]; simp only [List.length_cons, List.length_nil]; omega) w
          rw [HT.out] at ha2
          have HCV3 := Lib.hid hcv3
          clear HT hput hpl hcv3 h8
          go_region_with (first
            | (go_at_call 230; (with_reducible refine (HPS _).out.mono ?_); rintro e w4 ⟨rfl, hb4⟩; try have hcv4 := fun m => HCV3.out w4 w3.heap.size m ((hb4.cell (by simp)).trans (cell_new1 w3 _ _))))
          all_goals go_wp2
          all_goals go_ret
          all_goals (first
            | exact RetB.mk rfl (bel_trans (hB2.alloc hB2.size (.cells #[.int .u8 (D : Int)] 5)).drew hb4)
            | exact RetB.mk rfl ((bel_trans hB2.drew hb4).alloc (bel_trans hB2.drew hb4).size (.cells #[.int .u8 (D : Int)] 5)))
end Go.Proofs.YtnmlajmaffiigaaGreatDoor

namespace Go.VB
open Go.RowKit
/-- append(b, s...), s a text: what else there is stays. -/
theorem wpl_appF2 {P : Program} {w : World} {ops : Array Oper} {rest : List Oper} {o : Oper} {a : Act} {Q : Exit → Act → World → Prop} (hgd : o.guard = none) (sl x : Operand) (t u : TypeId)
    (ho : o.op = .call { callee := .builtin .append, args := #[sl, x], argTypes := #[t, u] })
    (base : Nat) (e : TypeId) (ht : P.underlying t = some (.slice e)) (hu : P.underlying u = some .string) (hinfo : (P.info? e).map (fun i => (i.zero, i.size, i.bytes)) = some (some (.int .u8 0), 1, 1))
    (v : Value) (bs : List UInt8) (hs : a.eval sl = v) (hown : OwnF w base v bs) (s : ByteArray) (hx : a.eval x = .string s) (hlen : bs.length + s.size ≤ 225179981368000) (hbase : base ≤ w.heap.size)
    (h : ∀ v' w', OwnF w' base v' (bs ++ s.data.toList) → Below base w w' → w.grownBy w' v.ownBlock → wpList P ops Q rest (a.put o.dst v') w') : wpList P ops Q (o :: rest) a w := by
  refine wpList_plain hgd fun K hK => ?_
  obtain ⟨v', w', hr, h2, h3⟩ := run_appF (P := P) w base t u o.type e ht hu hinfo v bs hown s hlen hbase
  have hbel : Below base w w' := (Below.refl _ _).grown h3 hbase (fun b hb => by
    obtain ⟨g, c, rfl, h1, _⟩ := hown
    simp [Value.ownBlock] at hb
    omega)
  unfold Oper.wp execOp
  simp only [ho, resolve, invoke, builtin, Sem.run_bind, Sem.run_pure, Result.andThen_ok, List.map_toArray, List.map_cons, List.map_nil, hs, hx, hr]
  exact hK _ _ (h v' w' h2 hbel h3)
/-- Bytes and whole numbers lie in different blocks. -/
theorem OwnF.apart {w : World} {base base' g c : Nat} {v : Value} {bs : List UInt8} {e : TypeId} {l : List Int} (h : OwnF w base v bs) (hr : RowV (Value.int .i64) e w base' g c l) (hb : bs ≠ []) (hl : l ≠ []) : v.ownBlock ≠ some g := by
  obtain ⟨g', c', rfl, _, _, _, _, _, h6⟩ := h
  intro he
  simp only [Value.ownBlock, Option.some.injEq] at he
  cases bs with
  | nil => exact hb rfl
  | cons b bs =>
    cases l with
    | nil => exact hl rfl
    | cons x l =>
      have h1 := h6 0 b rfl
      have h2 := hr.cell 0 x rfl
      have h3 : g' = g := by simpa using he
      rw [h3, h2] at h1
      simp [bv] at h1
end Go.VB
namespace Go.Proofs.YtnmlajmaffiigaaGreatDoor
open Go.RowKit Go.VB Go.VarM Go.BP Go.RL Go.DL
set_option maxRecDepth 100000 in
set_option maxHeartbeats 4000000 in
theorem dencode_any (v : Value) (l : List Int) (B : Nat) (w : World) (hr : RdV (Value.int .i64) w B v l) (hB : B ≤ w.heap.size) (hi : I64 l) :
    Calls Tryz.prog 200 #[v] w (RetB (.string (str (encX l))) w) := by
  obtain ⟨A, c, rfl, hc1, hc2, hr'⟩ := hr
  have hr : RdV (Value.int .i64) w B (.slice A l.length c) l := ⟨A, c, rfl, hc1, hc2, hr'⟩
  unfold maxLen at hc2
  by_cases h4 : 4096 < l.length
  · rw [encX_out h4]
    have h0 : (((l.length : Nat) : Int) == 0) = false := beq_eq_false_iff_ne.2 (by omega)
    clear hr hr' hi
    go_enter Tryz.func200, Tryz.ntmps200
    go_wp2
    go_ret
    exact RetB.mk rfl (Below.refl _ _)
  cases l with
  | nil =>
    clear hr hr'
    go_enter Tryz.func200, Tryz.ntmps200
    go_wp2
    go_ret
    exact RetB.mk rfl (Below.refl _ _)
  | cons z r =>
    rw [encX_in (by omega)]
    have hz := hi.head
    obtain ⟨ad, rfl, hab, hg0⟩ := hr' 0 z rfl
    rw [addr_zero] at hg0
    have hld : (df (z :: r)).length = (z :: r).length - 1 := df_len _
    have hdi := df_i64 (z :: r)
    have HDF := Lib.hid (fun w' (hb : Below w.heap.size w w') => diffs_any (.slice (some ad) (z :: r).length c) (z :: r) B w' (hr.below (hb.mono hB)) (Nat.le_trans hB hb.size) (by simp) (by omega))
    have HPS := fun w' => Lib.hid (putsig_any z w' hz)
    have hpl := putL_len10 (zig_lt hz)
    have hpp := putL_pos (zigN z).toNat
    have h0 : (((z :: r).length : Int) == 0) = false := beq_eq_false_iff_ne.2 (by simp; omega)
    have hl1 : 1 ≤ (z :: r).length := by simp
    clear hr hr' hi
    generalize df (z :: r) = D at *
    generalize (z :: r).length = N at *
    generalize putL (zigN z).toNat = H at *
    generalize hT : H ++ encB D = T
    have HT := Lib.hid hT; clear hT
    go_enter Tryz.func200, Tryz.ntmps200
    go_wp2_with fail
    refine (HPS _).out.mono ?_
    rintro e w2 ⟨rfl, hb2⟩
    have hsz2 := hb2.size
    obtain ⟨ve, w3, hcv, hown, hb3⟩ := run_bytes_F (P := Tryz.prog) w2 w.heap.size 9 41 5 (str H) Tryz.underlying9 Tryz.underlying41 Tryz.underlying5 (by rw [str_size]; omega) hsz2
    have hb13 := hb2.trans (hb3.mono hsz2)
    clear HPS hb2 hb3
    go_wp2_with fail
    clear hcv
    refine (HDF.out _ hb13).mono ?_
    rintro e w4 ⟨g, rfl, hrow, hb4⟩
    have hdl := hrow.lt
    obtain ⟨B3, hB3⟩ : ∃ B3, B3 = w3.heap.size := ⟨_, rfl⟩
    rw [← hB3] at hrow
    have hown4 := hown.below hb4
    have hb14 := hb13.trans (hb4.mono hb13.size)
    have hHne : (str H).data.toList ≠ [] := List.ne_nil_of_length_pos hpp
    have hst : (str H).data.toList ++ encB (D.drop 0) = T := HT.out
    have hTl : T.length ≤ 77834 := by
      have h2 := encB_len _ D (Nat.le_refl _) hdi
      rw [← HT.out, List.length_append]; omega
    obtain ⟨n, hn⟩ : ∃ n, D.length = n := ⟨_, rfl⟩
    rw [hn] at hrow ⊢
    have hn4 : n ≤ 4096 := by omega
    have HDI := Lib.hid hdi; have HN := Lib.hid hn
    clear HDF hown hb4 hb13 hsz2 hdi hn hB3 hld h0 hl1 hg0
    go_wp2_with fail
    go_loopw [3, 4] (fun v d wr => ∃ (bs : List UInt8) (k k' m : Nat), d = .slice (some ⟨g, k', none⟩) m m ∧ k + m ≤ n ∧ n ≤ k + m ∧ (0 < m → k' = k) ∧ RowV (Value.int .i64) 2 wr B3 g n D ∧ OwnF wr w.heap.size v bs ∧ bs ≠ [] ∧ bs ++ encB (D.drop k) = T ∧ Below w.heap.size w wr) (fun _ d _ => lenS d)
    case atStart => exact ⟨_, 0, 0, n, rfl, by omega, by omega, fun _ => rfl, hrow, hown4, hHne, hst, hb14⟩
    case round =>
      clear hrow hown4 hHne hst hb14 hdl
      obtain ⟨bs, k, k', m, rfl, hk1, hk2, hkk, hrow, hown, hbs, hT, hbel⟩ := hrel
      by_cases hm0 : 0 < m
      · obtain rfl : k' = k := hkk hm0
        clear hkk
        have hdk : (D.drop k').length = m := by rw [List.length_drop, HN.out]; omega
        have hdne : D.drop k' ≠ [] := List.ne_nil_of_length_pos (by omega)
        have hDne : D ≠ [] := List.ne_nil_of_length_pos (by rw [HN.out]; omega)
        have hPart : ∀ (q : List Int) (cc : Nat), (∀ i x, q[i]? = some x → (D.drop k')[i]? = some x) → q.length ≤ cc → cc ≤ 4096 → RdV (Value.int .i64) wr wr.heap.size (.slice (some ⟨g, k', none⟩) q.length cc) q := fun q cc h1 h2 h3 =>
          hrow.part (fun i x hx => by have := h1 i x hx; rwa [List.getElem?_drop] at this) h2 (by unfold maxLen; omega)
        have hap := hown.apart hrow hbs hDne
        by_cases hm : m ≤ 32
        · have hrd := hPart (D.drop k') m (fun _ _ h => h) (by omega) (by omega)
          rw [hdk] at hrd
          have htk : (D.drop k').take 32 = D.drop k' := List.take_of_length_le (by omega)
          have hd2 : (D.drop k').drop 32 = [] := List.drop_eq_nil_of_le (by omega)
          rw [encB_go hdne, htk, hd2, encB_nil, List.append_nil] at hT
          have hbl := blk_len (HDI.out.drop k') hdne
          have HPB := Lib.hid (putblock_any _ (D.drop k') _ wr hrd (Nat.le_refl _) (by omega) (by omega) (HDI.out.drop k'))
          have hdn : D.drop (k' + m) = [] := List.drop_eq_nil_of_le (by rw [HN.out]; omega)
          generalize blk (D.drop k') = bk at *
          have hlen := congrArg List.length hT
          rw [List.length_append] at hlen
          have H1 := Lib.hid (show bs.length + (str bk).size ≤ 225179981368000 by rw [str_size]; omega)
          have HT2 := Lib.hid hT; have HDN := Lib.hid hdn
          clear hT hlen htk hd2 hdk hPart hrd hdn
          go_wp2_with (first
            | (go_at_call 232; (with_reducible refine HPB.out.mono ?_); rintro e w5 ⟨rfl, hb5⟩; have hown5 := hown.below hb5; have hrow5 := hrow.below hb5; have hbel5 := hbel.trans (hb5.mono hbel.size); clear hown hbel hrow hb5)
            | (at_builtin; refine wpl_appF2 rfl _ _ 41 9 rfl w.heap.size 5 Tryz.underlying41 Tryz.underlying9 Tryz.infoU8 _ bs rfl hown5 _ rfl H1.out hbel5.size ?_; intro v6 w6 hown6 hb6 hg6; have hrow6 := hrow5.keep hg6 hap; have hbel6 := hbel5.trans hb6))
          go_roundw
          case rel => exact ⟨bs ++ bk, k' + m, k', 0, rfl, by omega, by omega, fun h => absurd h (by omega), hrow6, hown6, by simp [hbs], by rw [HDN.out, encB_nil, List.append_nil]; exact HT2.out, hbel6⟩
          case measure => simp only [lenS]; omega
        · have h32 : ((D.drop k').take 32).length = 32 := by rw [List.length_take]; omega
          have hrd := hPart ((D.drop k').take 32) m (fun i x h => by
            rw [List.getElem?_take] at h
            split at h
            · exact h
            · cases h) (by omega) (by omega)
          rw [h32] at hrd
          rw [encB_go hdne, ← List.append_assoc] at hT
          have htne := take_ne hdne
          have hi32 := i64_take (HDI.out.drop k') 32
          have hbl := blk_len hi32 htne
          have HPB := Lib.hid (putblock_any _ ((D.drop k').take 32) _ wr hrd (Nat.le_refl _) (by omega) (by omega) hi32)
          have hdd : (D.drop k').drop 32 = D.drop (k' + 32) := List.drop_drop
          rw [hdd] at hT
          generalize blk ((D.drop k').take 32) = bk at *
          have hlen := congrArg List.length hT
          rw [List.length_append, List.length_append] at hlen
          have H1 := Lib.hid (show bs.length + (str bk).size ≤ 225179981368000 by rw [str_size]; omega)
          have HT2 := Lib.hid hT
          have hmne : ¬ m = 32 := by omega
          clear hT hlen hdk hPart hrd h32 htne hi32 hdd
          go_wp2_with (first
            | (go_at_call 232; (with_reducible refine HPB.out.mono ?_); rintro e w5 ⟨rfl, hb5⟩; have hown5 := hown.below hb5; have hrow5 := hrow.below hb5; have hbel5 := hbel.trans (hb5.mono hbel.size); clear hown hbel hrow hb5)
            | (at_builtin; refine wpl_appF2 rfl _ _ 41 9 rfl w.heap.size 5 Tryz.underlying41 Tryz.underlying9 Tryz.infoU8 _ bs rfl hown5 _ rfl H1.out hbel5.size ?_; intro v6 w6 hown6 hb6 hg6; have hrow6 := hrow5.keep hg6 hap; have hbel6 := hbel5.trans hb6))
          go_roundw
          case rel => exact ⟨bs ++ bk, k' + 32, k' + 32, m - 32, rfl, by omega, by omega, fun _ => rfl, hrow6, hown6, by simp [hbs], HT2.out, hbel6⟩
          case measure => simp only [lenS]; omega
      · have hdn : D.drop k = [] := List.drop_eq_nil_of_le (by rw [HN.out]; omega)
        rw [hdn, encB_nil, List.append_nil] at hT
        subst hT
        have hcv := run_string_of_F (P := Tryz.prog) 41 9 5 Tryz.underlying41 Tryz.underlying5 Tryz.underlying9 hown
        clear hdn
        go_wp2
        go_ret
        exact RetB.mk rfl hbel
end Go.Proofs.YtnmlajmaffiigaaGreatDoor

namespace Go.DL
open Go.RowKit Go.VB Go.VarM Go.BP Go.RL
end Go.DL
namespace Go.Proofs.YtnmlajmaffiigaaGreatDoor
open Go.RowKit Go.VB Go.VarM Go.BP Go.RL Go.DL
section
variable (v : Value) (u : List Nat) (k : Nat) (m : Int) (B : Nat) (w : World) (hr : RdN .u64 w B v u) (hB : B ≤ w.heap.size) (h0 : 0 < u.length) (h64 : ∀ x ∈ u, x < 18446744073709551616) (hk : k ≤ 64) (hm : -9223372036854775808 ≤ m ∧ m ≤ 9223372036854775807)
include hr hB h0 h64 hk hm
end
section
variable (s : ByteArray) (p : Int) (c : Nat) (w : World) (hs : s.size ≤ 140737488351232) (h1 : 1 ≤ c) (h32 : c ≤ 32)
include hs h1 h32
end
end Go.Proofs.YtnmlajmaffiigaaGreatDoor

namespace Go.VB
open Go.RowKit
end Go.VB
namespace Go.DL
open Go.RowKit Go.VB Go.VarM Go.BP Go.RL
end Go.DL
namespace Go.Proofs.YtnmlajmaffiigaaGreatDoor
open Go.RowKit Go.VB Go.VarM Go.BP Go.RL Go.DL
end Go.Proofs.YtnmlajmaffiigaaGreatDoor
