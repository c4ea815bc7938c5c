/- Layer 7: schemas: names, columns, their checks; slices of columns in memory. -/
import Derived.Test.YtnmlajmaffiigaaGreatDoorGw
import Derived.Lib.Bytealg
import Derived.Lib.Strings
import Derived.Deep.Slices
namespace Go.SC
open Go.RowKit Go.VB Go.VL

/-- A column. -/
structure Col where
  nm : ByteArray
  ty : Int
  sc : Int
  nu : Bool
def col0 : Col := ⟨⟨#[]⟩, 0, 0, false⟩
def Col.cells (c : Col) : List Value := [.string c.nm, .int .i64 c.ty, .int .i64 c.sc, .bool c.nu]
def Col.val (c : Col) : Value := .agg #[.string c.nm, .int .i64 c.ty, .int .i64 c.sc, .bool c.nu]

/-! ### names -/
def lowN (n : Nat) : Bool := decide (97 ≤ n ∧ n ≤ 122)
def digN (n : Nat) : Bool := decide (48 ≤ n ∧ n ≤ 57)
/-- Byte i of a name may be n. -/
def nmN (i n : Nat) : Bool := lowN n || (decide (i ≠ 0) && (digN n || decide (n = 95)))
def keyS : ByteArray := ⟨#[107, 101, 121]⟩
def nameS (s : ByteArray) : Bool := decide (1 ≤ s.size ∧ s.size ≤ 16 ∧ ¬ s = keyS) && (List.range s.size).all fun i => nmN i (bN s i)
theorem nameS_t {s : ByteArray} (h : 1 ≤ s.size ∧ s.size ≤ 16 ∧ ¬ s = keyS) (h2 : ∀ i, i < s.size → nmN i (bN s i) = true) : nameS s = true := by
  unfold nameS
  rw [decide_eq_true h, Bool.true_and, List.all_eq_true]
  intro i hi
  exact h2 i (List.mem_range.1 hi)
theorem nameS_f1 {s : ByteArray} (h : ¬ (1 ≤ s.size ∧ s.size ≤ 16 ∧ ¬ s = keyS)) : nameS s = false := by
  unfold nameS
  rw [decide_eq_false h, Bool.false_and]
theorem nameS_f2 {s : ByteArray} {i : Nat} (hi : i < s.size) (h2 : nmN i (bN s i) = false) : nameS s = false := by
  cases hn : nameS s with
  | false => rfl
  | true =>
    unfold nameS at hn
    have := List.all_eq_true.1 (Bool.and_eq_true_iff.1 hn).2 i (List.mem_range.2 hi)
    rw [h2] at this; cases this
theorem nameS_ok {s : ByteArray} (h : nameS s = true) : (1 ≤ s.size ∧ s.size ≤ 16 ∧ ¬ s = keyS) ∧ ∀ i, i < s.size → nmN i (bN s i) = true := by
  unfold nameS at h
  obtain ⟨h1, h2⟩ := Bool.and_eq_true_iff.1 h
  exact ⟨of_decide_eq_true h1, fun i hi => List.all_eq_true.1 h2 i (List.mem_range.2 hi)⟩

/-! ### the first column with a name -/
def fnd : List Col → ByteArray → Int
  | [], _ => -1
  | c :: r, nm => if c.nm = nm then 0 else if fnd r nm < 0 then -1 else fnd r nm + 1
theorem fnd_hit {nm : ByteArray} : ∀ {cs : List Col} {i : Nat}, i < cs.length → (cs.getD i col0).nm = nm → (∀ j, j < i → ¬ (cs.getD j col0).nm = nm) → fnd cs nm = i
  | [], i, h, _, _ => absurd h (Nat.not_lt_zero _)
  | c :: r, 0, _, h1, _ => by
    have h1' : c.nm = nm := h1
    unfold fnd; rw [if_pos h1']; rfl
  | c :: r, i + 1, h, h1, h2 => by
    have h3 := fnd_hit (cs := r) (i := i) (by simpa using h) h1 (fun j hj => h2 (j + 1) (by omega))
    have h4 : ¬ c.nm = nm := h2 0 (by omega)
    unfold fnd
    rw [if_neg h4, h3, if_neg (by omega)]; omega
theorem fnd_miss {nm : ByteArray} : ∀ {cs : List Col}, (∀ j, j < cs.length → ¬ (cs.getD j col0).nm = nm) → fnd cs nm = -1
  | [], _ => rfl
  | c :: r, h => by
    have h3 := fnd_miss (cs := r) (fun j hj => h (j + 1) (by simpa using hj))
    have h4 : ¬ c.nm = nm := h 0 (by simp)
    unfold fnd
    rw [if_neg h4, h3]; rfl
/-- What Find's answer says. -/
theorem fnd_lt {nm : ByteArray} {cs : List Col} {i : Nat} (hi : i ≤ cs.length) : (0 ≤ fnd cs nm ∧ fnd cs nm < i) ↔ ∃ j, j < i ∧ (cs.getD j col0).nm = nm := by
  induction cs generalizing i with
  | nil =>
    constructor
    · intro h; exact absurd h.1 (by show ¬ (0 : Int) ≤ -1; decide)
    · rintro ⟨j, hj, _⟩; simp at hi; omega
  | cons c r ih =>
    constructor
    · intro h
      by_cases h0 : c.nm = nm
      · exact ⟨0, by omega, h0⟩
      · unfold fnd at h
        rw [if_neg h0] at h
        by_cases h1 : fnd r nm < 0
        · rw [if_pos h1] at h; omega
        · rw [if_neg h1] at h
          obtain ⟨j, hj, he⟩ := (ih (i := i - 1) (by simp at hi; omega)).1 ⟨by omega, by omega⟩
          exact ⟨j + 1, by omega, he⟩
    · rintro ⟨j, hj, he⟩
      by_cases h0 : c.nm = nm
      · unfold fnd; rw [if_pos h0]; omega
      · match j, he with
        | 0, he => exact absurd he h0
        | j + 1, he =>
          have := (ih (i := i - 1) (by simp at hi; omega)).2 ⟨j, by omega, he⟩
          unfold fnd
          rw [if_neg h0, if_neg (by omega)]; omega

/-! ### what Check returns -/
def chkCol (cs : List Col) (i : Nat) : Nat :=
  let c := cs.getD i col0
  if nameS c.nm = false then 3 else if (∃ j, j < i ∧ (cs.getD j col0).nm = c.nm) then 5 else if okT c.ty = false then 11
  else if c.sc < 0 ∨ 18 < c.sc ∨ (c.ty ≠ 5 ∧ c.sc ≠ 0) then 4 else 0
/-- The first error of the columns from i on, n of them. -/
def chkFrom (cs : List Col) : Nat → Nat → Nat
  | _, 0 => 0
  | i, n + 1 => if chkCol cs i = 0 then chkFrom cs (i + 1) n else chkCol cs i
def chkS (cs : List Col) (key : Int) : Nat :=
  if cs.length = 0 then 1 else if 12 < cs.length then 7 else if chkFrom cs 0 cs.length ≠ 0 then chkFrom cs 0 cs.length
  else if key < 0 ∨ (cs.length : Int) ≤ key then 4 else 0
theorem chkFrom_hit {cs : List Col} : ∀ {n i j : Nat}, j < n → (∀ k, k < j → chkCol cs (i + k) = 0) → ¬ chkCol cs (i + j) = 0 → chkFrom cs i n = chkCol cs (i + j)
  | 0, _, _, h, _, _ => absurd h (Nat.not_lt_zero _)
  | n + 1, i, 0, _, _, h2 => by
    have h2' : ¬ chkCol cs i = 0 := h2
    show (if chkCol cs i = 0 then chkFrom cs (i + 1) n else chkCol cs i) = chkCol cs i
    rw [if_neg h2']
  | n + 1, i, j + 1, h, h1, h2 => by
    have h3 : chkCol cs i = 0 := h1 0 (by omega)
    unfold chkFrom
    rw [if_pos h3, chkFrom_hit (i := i + 1) (j := j) (by omega) (fun k hk => by have := h1 (k + 1) (by omega); rwa [← Nat.add_assoc, Nat.add_right_comm] at this) (by rwa [← Nat.add_assoc, Nat.add_right_comm] at h2), Nat.add_right_comm, Nat.add_assoc]
theorem chkFrom_none {cs : List Col} : ∀ {n i : Nat}, (∀ k, k < n → chkCol cs (i + k) = 0) → chkFrom cs i n = 0
  | 0, _, _ => rfl
  | n + 1, i, h => by
    have h0 : chkCol cs i = 0 := h 0 (by omega)
    unfold chkFrom
    rw [if_pos h0, chkFrom_none (fun k hk => by have := h (k + 1) (by omega); rwa [← Nat.add_assoc, Nat.add_right_comm] at this)]
theorem chkFrom_zero {cs : List Col} : ∀ {n i : Nat}, chkFrom cs i n = 0 → ∀ k, k < n → chkCol cs (i + k) = 0
  | 0, _, _, _, hk => absurd hk (Nat.not_lt_zero _)
  | n + 1, i, h, k, hk => by
    unfold chkFrom at h
    by_cases h0 : chkCol cs i = 0
    · rw [if_pos h0] at h
      match k with
      | 0 => exact h0
      | k + 1 => have := chkFrom_zero h k (by omega); rwa [← Nat.add_assoc, Nat.add_right_comm]
    · rw [if_neg h0] at h; exact absurd h h0
theorem chkS_hit {cs : List Col} {key : Int} {j : Nat} (h12 : cs.length ≤ 12) (hj : j < cs.length) (h1 : ∀ k, k < j → chkCol cs k = 0) (h2 : ¬ chkCol cs j = 0) : chkS cs key = chkCol cs j := by
  have h := chkFrom_hit (i := 0) hj (fun k hk => by rw [Nat.zero_add]; exact h1 k hk) (by rwa [Nat.zero_add])
  rw [Nat.zero_add] at h
  unfold chkS
  rw [if_neg (by omega), if_neg (by omega), h, if_pos h2]
theorem chkS_end {cs : List Col} {key : Int} (h0 : cs.length ≠ 0) (h12 : cs.length ≤ 12) (h1 : ∀ k, k < cs.length → chkCol cs k = 0) : chkS cs key = if key < 0 ∨ (cs.length : Int) ≤ key then 4 else 0 := by
  unfold chkS
  rw [if_neg h0, if_neg (by omega), chkFrom_none (fun k hk => by rw [Nat.zero_add]; exact h1 k hk), if_neg (by simp)]
theorem chkS_ok {cs : List Col} {key : Int} (h : chkS cs key = 0) : cs.length ≠ 0 ∧ cs.length ≤ 12 ∧ (∀ k, k < cs.length → chkCol cs k = 0) ∧ 0 ≤ key ∧ key < cs.length := by
  unfold chkS at h
  split at h
  · cases h
  · split at h
    · cases h
    · split at h
      · contradiction
      · split at h
        · cases h
        · refine ⟨by omega, by omega, fun k hk => ?_, by omega, by omega⟩
          have := chkFrom_zero (cs := cs) (n := cs.length) (i := 0) (by omega) k hk
          rwa [Nat.zero_add] at this
theorem chkCol_ok {cs : List Col} {i : Nat} (h : chkCol cs i = 0) : nameS (cs.getD i col0).nm = true ∧ (¬ ∃ j, j < i ∧ (cs.getD j col0).nm = (cs.getD i col0).nm) ∧ okT (cs.getD i col0).ty = true ∧
    0 ≤ (cs.getD i col0).sc ∧ (cs.getD i col0).sc ≤ 18 ∧ ((cs.getD i col0).ty ≠ 5 → (cs.getD i col0).sc = 0) := by
  unfold chkCol at h
  simp only at h
  split at h
  · cases h
  · split at h
    · cases h
    · split at h
      · cases h
      · split at h
        · cases h
        · refine ⟨by simpa using ‹¬ nameS _ = false›, by assumption, by simpa using ‹¬ okT _ = false›, by omega, by omega, fun h5 => ?_⟩
          omega
theorem chkCol_name {cs : List Col} {i : Nat} (h : nameS (cs.getD i col0).nm = false) : chkCol cs i = 3 := by
  unfold chkCol; simp only; rw [if_pos h]
theorem chkCol_dup {cs : List Col} {i : Nat} (h : nameS (cs.getD i col0).nm = true) (h2 : ∃ j, j < i ∧ (cs.getD j col0).nm = (cs.getD i col0).nm) : chkCol cs i = 5 := by
  unfold chkCol; simp only; rw [if_neg (by rw [h]; simp), if_pos h2]
theorem chkCol_type {cs : List Col} {i : Nat} (h : nameS (cs.getD i col0).nm = true) (h2 : ¬ ∃ j, j < i ∧ (cs.getD j col0).nm = (cs.getD i col0).nm) (h3 : okT (cs.getD i col0).ty = false) : chkCol cs i = 11 := by
  unfold chkCol; simp only; rw [if_neg (by rw [h]; simp), if_neg h2, if_pos h3]
theorem chkCol_scale {cs : List Col} {i : Nat} (h : nameS (cs.getD i col0).nm = true) (h2 : ¬ ∃ j, j < i ∧ (cs.getD j col0).nm = (cs.getD i col0).nm) (h3 : okT (cs.getD i col0).ty = true) :
    chkCol cs i = if (cs.getD i col0).sc < 0 ∨ 18 < (cs.getD i col0).sc ∨ ((cs.getD i col0).ty ≠ 5 ∧ (cs.getD i col0).sc ≠ 0) then 4 else 0 := by
  unfold chkCol; simp only; rw [if_neg (by rw [h]; simp), if_neg h2, if_neg (by rw [h3]; simp)]

/-! ### slices of columns -/
/-- The four cells of column j of a slice that begins at ad, as a load spells them. -/
structure At4 (w : World) (ad : Addr) (j : Nat) (c : Col) : Prop where
  c0 : w.cell? (ad.add (j * 4)) = some (.string c.nm)
  c1 : w.cell? ⟨(ad.add (j * 4)).block, (ad.add (j * 4)).off + 1, none⟩ = some (.int .i64 c.ty)
  c2 : w.cell? ⟨(ad.add (j * 4)).block, (ad.add (j * 4)).off + 2, none⟩ = some (.int .i64 c.sc)
  c3 : w.cell? ⟨(ad.add (j * 4)).block, (ad.add (j * 4)).off + 3, none⟩ = some (.bool c.nu)
theorem at_off (a : Addr) (n k : Nat) (hk : k ≠ 0) : a.add (n + k) = ⟨(a.add n).block, (a.add n).off + k, none⟩ := by
  rw [← Go.Deep.add_add]
  show (a.add n).add k = _
  generalize a.add n = b
  unfold Addr.add
  rw [if_neg hk]
theorem At4.mk' {w : World} {ad : Addr} {j : Nat} {c : Col} (h0 : w.cell? (ad.add (j * 4)) = some (.string c.nm)) (h1 : w.cell? (ad.add (j * 4 + 1)) = some (.int .i64 c.ty)) (h2 : w.cell? (ad.add (j * 4 + 2)) = some (.int .i64 c.sc))
    (h3 : w.cell? (ad.add (j * 4 + 3)) = some (.bool c.nu)) : At4 w ad j c :=
  ⟨h0, by rw [← at_off _ _ _ (by decide)]; exact h1, by rw [← at_off _ _ _ (by decide)]; exact h2, by rw [← at_off _ _ _ (by decide)]; exact h3⟩
/-- The slice v can be read and holds the columns cs; it lies below block B. -/
def RdC (w : World) (B : Nat) (v : Value) (cs : List Col) : Prop :=
  ∃ A c, v = .slice A cs.length c ∧ cs.length ≤ c ∧ c ≤ maxLen ∧ ∀ i, i < cs.length → ∃ ad, A = some ad ∧ ad.block < B ∧ At4 w ad i (cs.getD i col0)
theorem RdC.nil (w : World) (B : Nat) : RdC w B (.slice none 0 0) [] := ⟨none, 0, rfl, Nat.le_refl _, Nat.zero_le _, fun _ hi => absurd hi (Nat.not_lt_zero _)⟩
theorem At4.below {w w' : World} {B : Nat} {ad : Addr} {j : Nat} {c : Col} (h : At4 w ad j c) (hb : Below B w w') (hB : ad.block < B) : At4 w' ad j c := by
  have hlt : (ad.add (j * 4)).block < B := by rw [block_add]; exact hB
  exact ⟨(hb.cell hlt).trans h.c0, (hb.cell (p := ⟨(ad.add (j * 4)).block, _, none⟩) hlt).trans h.c1, (hb.cell (p := ⟨(ad.add (j * 4)).block, _, none⟩) hlt).trans h.c2, (hb.cell (p := ⟨(ad.add (j * 4)).block, _, none⟩) hlt).trans h.c3⟩
theorem RdC.below {w w' : World} {B : Nat} {v : Value} {cs : List Col} (h : RdC w B v cs) (hb : Below B w w') : RdC w' B v cs := by
  obtain ⟨A, c, hv, hc, hm, hr⟩ := h
  refine ⟨A, c, hv, hc, hm, fun i hi => ?_⟩
  obtain ⟨ad, h1, h2, h3⟩ := hr i hi
  exact ⟨ad, h1, h2, h3.below hb h2⟩
theorem RdC.more {w : World} {B B' : Nat} {v : Value} {cs : List Col} (h : RdC w B v cs) (hB : B ≤ B') : RdC w B' v cs := by
  obtain ⟨A, c, hv, hc, hm, hr⟩ := h
  refine ⟨A, c, hv, hc, hm, fun i hi => ?_⟩
  obtain ⟨ad, h1, h2, h3⟩ := hr i hi
  exact ⟨ad, h1, by omega, h3⟩
theorem RdC.step {w w' : World} {v : Value} {cs : List Col} (h : RdC w w.heap.size v cs) (hb : Below w.heap.size w w') : RdC w' w'.heap.size v cs := (h.below hb).more hb.size
/-- The cells of columns, one after another. -/
def colCells (cs : List Col) : List Value := cs.flatMap Col.cells
theorem colCells_get : ∀ (cs : List Col) (i k : Nat), i < cs.length → k < 4 → (colCells cs)[i * 4 + k]? = (cs.getD i col0).cells[k]?
  | [], i, _, h, _ => absurd h (Nat.not_lt_zero _)
  | c :: r, 0, k, _, hk => by
    show (c.cells ++ colCells r)[0 * 4 + k]? = _
    rw [Nat.zero_mul, Nat.zero_add, List.getElem?_append_left (show k < c.cells.length from hk)]; rfl
  | c :: r, i + 1, k, h, hk => by
    show (c.cells ++ colCells r)[(i + 1) * 4 + k]? = _
    rw [List.getElem?_append_right (show c.cells.length ≤ (i + 1) * 4 + k from by show 4 ≤ _; omega), show (i + 1) * 4 + k - c.cells.length = i * 4 + k from by show _ - 4 = _; omega,
      colCells_get r i k (by simpa using h) hk]; rfl
/-- The slice v is the call's own and holds the columns cs. -/
def OwnC (e : TypeId) (w : World) (base : Nat) (v : Value) (cs : List Col) : Prop := w.ownsRow base e 4 v cs.length (colCells cs)
theorem OwnC.nil (e : TypeId) (w : World) (base : Nat) : OwnC e w base (.slice none 0 0) [] := World.ownsRow_nil w base e 4
theorem OwnC.alloc {e : TypeId} {w : World} {base : Nat} {v : Value} {cs : List Col} (h : OwnC e w base v cs) (o : Obj) : OwnC e (w.alloc o) base v cs := World.ownsRow.alloc h o
theorem OwnC.lt {e : TypeId} {w : World} {base : Nat} {v : Value} {cs : List Col} (h : OwnC e w base v cs) : ∀ b, v.ownBlock = some b → base ≤ b ∧ b < w.heap.size := World.ownsRow.lt h
theorem OwnC.below {e : TypeId} {w w' : World} {base : Nat} {v : Value} {cs : List Col} (h : OwnC e w base v cs) (hb : Below w.heap.size w w') : OwnC e w' base v cs := by
  refine World.ownsRow.kept (row := none) h ⟨hb.os, hb.tape, hb.output, hb.size, fun b hlt _ => hb.block b hlt⟩ ?_
  rcases hv : v.ownBlock with _ | b
  · exact .inl rfl
  · exact .inr (by simp)
theorem OwnC.read {e : TypeId} {w : World} {base : Nat} {v : Value} {cs : List Col} (h : OwnC e w base v cs) : RdC w w.heap.size v cs := by
  have hlt := h.lt
  rcases h.2 with ⟨rfl, hn⟩ | ⟨g, c, cur, rfl, _, _, h3, h4, _⟩
  · have := List.eq_nil_of_length_eq_zero hn
    subst this
    exact RdC.nil _ _
  · refine ⟨some ⟨g, 0, none⟩, c, rfl, h3, h4, fun i hi => ⟨_, rfl, (hlt g rfl).2, ?_⟩⟩
    have key : ∀ k u, k < 4 → (cs.getD i col0).cells[k]? = some u → w.cell? ((⟨g, 0, none⟩ : Addr).add (i * 4 + k)) = some u := fun k u hk hu =>
      World.ownsRow.cells h (g := g) rfl (i * 4 + k) u (by rw [colCells_get cs i k hi hk]; exact hu)
    exact At4.mk' (key 0 _ (by decide) rfl) (key 1 _ (by decide) rfl) (key 2 _ (by decide) rfl) (key 3 _ (by decide) rfl)
end Go.SC

namespace Go.SC
open Go.RowKit Go.VB Go.VL
theorem s_empty7 {s : ByteArray} (h : s.size = 0) : s = ⟨#[]⟩ := by
  apply ByteArray.ext
  apply Array.toList_inj.1
  exact List.eq_nil_of_length_eq_zero (by rw [size_list]; omega)
theorem s_full7 {s : ByteArray} (h : ¬ s.size = 0) : s.toList.isEmpty = false := by
  rw [ByteArray.toList_eq]
  cases hl : s.data.toList with
  | nil => rw [← size_list, hl] at h; exact absurd rfl h
  | cons _ _ => rfl
theorem snoc {p : Nat → Prop} {j : Nat} (h : ∀ k, k < j → p k) (hj : p j) : ∀ k, k < j + 1 → p k := fun k hk => by
  rcases Nat.lt_or_eq_of_le (Nat.le_of_lt_succ hk) with h1 | h1
  · exact h k h1
  · rw [h1]; exact hj
theorem none_below {p : Nat → Prop} : ∀ k, k < 0 → p k := fun k hk => absurd hk (Nat.not_lt_zero k)
theorem key_list : keyS.toList = [107, 101, 121] := by rw [ByteArray.toList_eq]; rfl
theorem key_ne {s : ByteArray} (h : ¬ s = keyS) : (s.toList == [107, 101, 121]) = false := by rw [← key_list]; exact text_ne h
theorem nm_low {i V : Nat} (h : lowN V = true) : nmN i V = true := by unfold nmN; rw [h]; rfl
theorem nm_zero {V : Nat} (h : lowN V = false) : nmN 0 V = false := by unfold nmN; rw [h]; rfl
theorem nm_more {i V : Nat} (h : lowN V = false) (hi : i ≠ 0) : nmN i V = (digN V || decide (V = 95)) := by unfold nmN; rw [h, decide_eq_true hi]; rfl
end Go.SC
namespace Go.Proofs.YtnmlajmaffiigaaGreatDoor
open Go.RowKit Go.VB Go.VL Go.SC
set_option linter.constructorNameAsVariable false
set_option maxRecDepth 100000 in
set_option maxHeartbeats 1000000 in
theorem isLetter_any (n : Nat) (w : World) : Calls Tryz.prog 168 #[.int .u8 (n : Int)] w (Ret (.bool (lowN n)) w) := by
  unfold lowN
  by_cases h1 : 97 ≤ n
  · by_cases h2 : n ≤ 122
    · rw [decide_eq_true ⟨h1, h2⟩]
      go_enter Tryz.func168, Tryz.ntmps168
      go_wp2
      go_ret
      exact Ret.mk (by simp; omega)
    · rw [decide_eq_false (fun h => h2 h.2)]
      go_enter Tryz.func168, Tryz.ntmps168
      go_wp2
      go_ret
      exact Ret.mk (by simp; omega)
  · rw [decide_eq_false (fun h => h1 h.1)]
    go_enter Tryz.func168, Tryz.ntmps168
    go_wp2
    go_ret
    exact Ret.mk rfl
set_option maxRecDepth 100000 in
set_option maxHeartbeats 1000000 in
theorem isDigit_any (n : Nat) (w : World) : Calls Tryz.prog 169 #[.int .u8 (n : Int)] w (Ret (.bool (digN n)) w) := by
  unfold digN
  by_cases h1 : 48 ≤ n
  · by_cases h2 : n ≤ 57
    · rw [decide_eq_true ⟨h1, h2⟩]
      go_enter Tryz.func169, Tryz.ntmps169
      go_wp2
      go_ret
      exact Ret.mk (by simp; omega)
    · rw [decide_eq_false (fun h => h2 h.2)]
      go_enter Tryz.func169, Tryz.ntmps169
      go_wp2
      go_ret
      exact Ret.mk (by simp; omega)
  · rw [decide_eq_false (fun h => h1 h.1)]
    go_enter Tryz.func169, Tryz.ntmps169
    go_wp2
    go_ret
    exact Ret.mk rfl
set_option maxRecDepth 100000 in
set_option maxHeartbeats 2000000 in
theorem name_any (s : ByteArray) (w : World) : Calls Tryz.prog 135 #[.string s] w (Ret (.bool (nameS s)) w) := by
  by_cases h0 : s.size = 0
  · have hv := nameS_f1 (s := s) (fun h => by omega)
    obtain rfl := s_empty7 h0
    rw [hv]; clear hv h0
    go_enter Tryz.func135, Tryz.ntmps135
    go_wp2
    go_ret
    exact Ret.mk rfl
  have hne := s_full7 h0
  by_cases h16 : 16 < s.size
  · have hv := nameS_f1 (s := s) (fun h => by omega)
    rw [hv]; clear hv
    go_enter Tryz.func135, Tryz.ntmps135
    go_wp2
    go_ret
    exact Ret.mk rfl
  by_cases hk : s = keyS
  · have hv := nameS_f1 (s := s) (fun h => h.2.2 hk)
    subst hk
    rw [hv]; clear hv h0 h16 hne
    unfold keyS
    go_enter Tryz.func135, Tryz.ntmps135
    go_wp2
    go_ret
    exact Ret.mk rfl
  have hkn := key_ne hk
  have HT := Lib.hid (nameS_t (s := s) ⟨by omega, by omega, hk⟩)
  have HF := fun i => Lib.hid (nameS_f2 (s := s) (i := i))
  have hb := get_bN s
  clear hk
  have HL := fun n w => Lib.hid (isLetter_any n w)
  have HD := fun n w => Lib.hid (isDigit_any n w)
  go_enter Tryz.func135, Tryz.ntmps135
  go_wp2_with fail
  go_loop [2, 3, 17] (fun r i j => ∃ k : Nat, r = .bool false ∧ j = .int .i64 k ∧ k ≤ s.size ∧ ∀ m, m < k → nmN m (bN s m) = true) (fun _ _ j => s.size - (intOf j).toNat)
  case atStart => exact ⟨0, rfl, rfl, Nat.zero_le _, none_below⟩
  case round =>
    obtain ⟨k, rfl, rfl, hk, hf⟩ := hrel
    have HP := Lib.hid hf; clear hf
    by_cases hlt : k < s.size
    · have hgk := hb k
      have HFk := fun h => Lib.hid ((HF k).out hlt h)
      have HN := fun h => Lib.hid (snoc (p := fun m => nmN m (bN s m) = true) (j := k) HP.out h)
      have hbl := bN_lt s k
      clear HF HT HP hne hkn hb
      generalize bN s k = V at *
      cases hl : lowN V with
      | true =>
        have HE := HN (nm_low hl)
        have HLk := fun w => Lib.hid (show Calls Tryz.prog 168 #[.int .u8 (V : Int)] w (Ret (.bool true) w) from by have := (HL V w).out; rwa [hl] at this)
        clear hl HN HFk HL
        go_wp2_with (first | (go_at_call 168; (with_reducible refine (HLk _).out.mono ?_); rintro e w' ⟨rfl, rfl⟩))
        go_round
        case rel => exact ⟨k + 1, rfl, by go_num, hlt, HE.out⟩
        case measure => simp [intOf] <;> omega
      | false =>
        have HLk := fun w => Lib.hid (show Calls Tryz.prog 168 #[.int .u8 (V : Int)] w (Ret (.bool false) w) from by have := (HL V w).out; rwa [hl] at this)
        by_cases hk0 : k = 0
        · subst hk0
          have HE := HFk (nm_zero hl)
          clear hl HN HFk HL
          go_wp2_with (first | (go_at_call 168; (with_reducible refine (HLk _).out.mono ?_); rintro e w' ⟨rfl, rfl⟩))
          go_ret
          exact Ret.mk (congrArg Value.bool HE.out.symm)
        · have hk0' : ((k : Int) == 0) = false := ieq_f (by omega)
          have hm := nm_more hl hk0
          have HDk := fun w => Lib.hid (HD V w).out
          cases hd : digN V with
          | true =>
            rw [hd] at hm HDk
            have HE := HN hm
            clear hl HN HFk HL hm hd
            go_wp2_with (first | (go_at_call 168; (with_reducible refine (HLk _).out.mono ?_); rintro e w' ⟨rfl, rfl⟩) | (go_at_call 169; (with_reducible refine (HDk _).out.mono ?_); rintro e w' ⟨rfl, rfl⟩))
            go_round
            case rel => exact ⟨k + 1, rfl, by go_num, hlt, HE.out⟩
            case measure => simp [intOf] <;> omega
          | false =>
            rw [hd, Bool.false_or] at hm
            rw [hd] at HDk
            by_cases h95 : V = 95
            · have HE := HN (hm.trans (decide_eq_true h95))
              have h95' : ((V : Int) != 95) = false := ine_f (by omega)
              clear hl HN HFk HL hm hd h95
              go_wp2_with (first | (go_at_call 168; (with_reducible refine (HLk _).out.mono ?_); rintro e w' ⟨rfl, rfl⟩) | (go_at_call 169; (with_reducible refine (HDk _).out.mono ?_); rintro e w' ⟨rfl, rfl⟩))
              go_round
              case rel => exact ⟨k + 1, rfl, by go_num, hlt, HE.out⟩
              case measure => simp [intOf] <;> omega
            · have HE := HFk (hm.trans (decide_eq_false h95))
              have h95' : ((V : Int) != 95) = true := ine_t (by omega)
              clear hl HN HFk HL hm hd h95
              go_wp2_with (first | (go_at_call 168; (with_reducible refine (HLk _).out.mono ?_); rintro e w' ⟨rfl, rfl⟩) | (go_at_call 169; (with_reducible refine (HDk _).out.mono ?_); rintro e w' ⟨rfl, rfl⟩))
              go_ret
              exact Ret.mk (congrArg Value.bool HE.out.symm)
    · have HE := Lib.hid (HT.out (fun i hi => HP.out i (by omega)))
      clear HT HF HL HD HP
      go_wp2
      go_ret
      exact Ret.mk (congrArg Value.bool HE.out.symm)
end Go.Proofs.YtnmlajmaffiigaaGreatDoor

namespace Go.Proofs.YtnmlajmaffiigaaGreatDoor
open Go.RowKit Go.VB Go.VL Go.SC
set_option linter.constructorNameAsVariable false
set_option maxRecDepth 100000 in
set_option maxHeartbeats 2000000 in
theorem find_any (cs : List Col) (v : Value) (key : Int) (nm : ByteArray) (W : World) (hr : RdC W W.heap.size v cs) :
    Calls Tryz.prog 136 #[.agg #[v, .int .i64 key], .string nm] W (RetB (.int .i64 (fnd cs nm)) W) := by
  have HH := fun i => Lib.hid (fnd_hit (cs := cs) (nm := nm) (i := i))
  have HM := Lib.hid (fnd_miss (cs := cs) (nm := nm))
  obtain ⟨A, c, rfl, hc, hm, hrr⟩ := hr
  have hX : ∀ j, j < cs.length → ∃ ad, A = some ad ∧ ad.block < W.heap.size ∧ At4 W ad j (cs.getD j col0) := hrr
  clear hrr
  unfold maxLen at hm
  have HX := Lib.hid hX; clear hX
  go_enter Tryz.func136, Tryz.ntmps136
  go_wp2_with fail
  go_loopw [4, 5, 6, 10] (fun r _ _ j wr => ∃ k : Nat, r = .int .i64 0 ∧ j = .int .i64 k ∧ k ≤ cs.length ∧ Below W.heap.size W wr ∧ ∀ m, m < k → ¬ (cs.getD m col0).nm = nm) (fun _ _ _ j _ => cs.length - (intOf j).toNat)
  case atStart => exact ⟨0, rfl, rfl, Nat.zero_le _, by go_grown, none_below⟩
  case round =>
    obtain ⟨k, rfl, rfl, hk, hB, hf⟩ := hrel
    have HP := Lib.hid hf; clear hf
    by_cases hlt : k < cs.length
    · obtain ⟨ad, rfl, hab, hat⟩ := HX.out k hlt
      obtain ⟨q0, q1, q2, q3⟩ := hat.below hB hab
      have HHk := fun h => Lib.hid ((HH k).out hlt h HP.out)
      have HN := fun h => Lib.hid (snoc (p := fun m => ¬ (cs.getD m col0).nm = nm) (j := k) HP.out h)
      clear HX HH HM HP hat hab
      generalize cs.getD k col0 = C at *
      obtain ⟨cn, ct, csc, cnu⟩ := C
      replace HHk : cn = nm → Hid (fnd cs nm = k) := HHk
      replace HN : ¬ cn = nm → Hid (∀ m, m < k + 1 → ¬ (cs.getD m col0).nm = nm) := HN
      by_cases he : cn = nm
      · have HE := HHk he
        have ht := text_eq he
        clear HN HHk he
        go_wp2_with fail
        go_ret
        exact RetB.mk (congrArg (Value.int .i64) HE.out.symm) (hB.alloc hB.size _)
      · have HE := HN he
        have ht := text_ne he
        clear HN HHk he
        go_wp2_with fail
        go_roundw
        case rel => exact ⟨k + 1, rfl, by go_num, hlt, hB.alloc hB.size _, HE.out⟩
        case measure => simp [intOf] <;> omega
    · clear HX HH
      have HE := Lib.hid (HM.out (fun j hj => HP.out j (by omega)))
      clear HM HP
      go_wp2
      go_ret
      exact RetB.mk (congrArg (Value.int .i64) HE.out.symm) hB
end Go.Proofs.YtnmlajmaffiigaaGreatDoor

namespace Go.SC
open Go.RowKit Go.VB Go.VL
/-- The word of a type; none for what is no type. -/
def tword (ty : Int) : ByteArray :=
  if ty = 1 then ⟨#[105, 110, 116]⟩ else if ty = 2 then ⟨#[98, 111, 111, 108]⟩ else if ty = 3 then ⟨#[98, 121, 116, 101, 115]⟩ else if ty = 4 then ⟨#[100, 97, 116, 101]⟩
  else if ty = 5 then ⟨#[100, 101, 99, 105, 109, 97, 108]⟩ else ⟨#[]⟩
theorem tword_out {ty : Int} (h : okT ty = false) : tword ty = ⟨#[]⟩ := by
  have := of_decide_eq_false h
  unfold tword
  rw [if_neg (by omega), if_neg (by omega), if_neg (by omega), if_neg (by omega), if_neg (by omega)]
theorem okT_five7 {ty : Int} (h : okT ty = true) : ty = 1 ∨ ty = 2 ∨ ty = 3 ∨ ty = 4 ∨ ty = 5 := by
  have := of_decide_eq_true h; omega
theorem tword_in {ty : Int} (h : okT ty = true) : (tword ty).toList.isEmpty = false := by
  rcases okT_five7 h with rfl | rfl | rfl | rfl | rfl <;> (rw [ByteArray.toList_eq]; rfl)
def gsc (ty : Int) : Int := if ty = 5 then 18 else 0
/-- The fields of a column that is known by its index. -/
theorem fnd_dup {cs : List Col} {i : Nat} (hi : i < cs.length) : fnd cs (cs.getD i col0).nm < i ↔ ∃ j, j < i ∧ (cs.getD j col0).nm = (cs.getD i col0).nm := by
  have h1 := fnd_lt (nm := (cs.getD i col0).nm) (cs := cs) (i := i) (by omega)
  have h2 := fnd_lt (nm := (cs.getD i col0).nm) (cs := cs) (i := i + 1) (by omega)
  have h3 := h2.2 ⟨i, by omega, rfl⟩
  constructor
  · intro h; exact h1.1 ⟨h3.1, h⟩
  · intro h; exact (h1.2 h).2
/-- A variable of two cells in block b. -/
structure Var2 (w : World) (b : Nat) (x y : Value) : Prop where
  c0 : w.cell? ⟨b, 0, none⟩ = some x
  c1 : w.cell? ⟨b, 1, none⟩ = some y
  f0 : w.frozen? ⟨b, 0, none⟩ = false
  f1 : w.frozen? ⟨b, 1, none⟩ = false
theorem Var2.new (w : World) (x y : Value) (T : TypeId) : Var2 (w.alloc (.cells #[x, y] T)) w.heap.size x y := by
  constructor <;> simp
theorem Var2.lt {w : World} {b : Nat} {x y : Value} (h : Var2 w b x y) : b < w.heap.size := World.block_lt_of_cell? w _ h.c0
theorem Var2.below {w w' : World} {b B : Nat} {x y : Value} (h : Var2 w b x y) (hb : Below B w w') (hB : b < B) : Var2 w' b x y := by
  constructor
  · rw [hb.cell hB]; exact h.c0
  · rw [hb.cell hB]; exact h.c1
  · rw [hb.frozen hB]; exact h.f0
  · rw [hb.frozen hB]; exact h.f1
/-- A callee that returns v and leaves the world, within a quiet region. -/
theorem quiet7 {P : Program} {f : FuncId} {args : Array Value} {w : World} {n : Nat} {v : Value} (h : Calls P f args (w.drewN n) (Ret v (w.drewN n))) :
    Calls P f args (w.drewN n) fun e w'' => e = .returned v ∧ ∃ m, w'' = w.drewN m := h.mono fun _ _ ⟨he, hm⟩ => ⟨he, n, hm.symm⟩
theorem Var2.step {w w' : World} {b : Nat} {x y : Value} (h : Var2 w b x y) (hb : Below w.heap.size w w') : Var2 w' b x y := h.below hb h.lt
end Go.SC
namespace Go.Proofs.YtnmlajmaffiigaaGreatDoor
open Go.RowKit Go.VB Go.VL Go.SC
set_option linter.constructorNameAsVariable false
set_option maxRecDepth 100000 in
set_option maxHeartbeats 1000000 in
theorem wordOf_any (ty : Int) (w : World) : Calls Tryz.prog 137 #[.int .i64 ty] w (Ret (.string (tword ty)) w) := by
  cases h : okT ty with
  | true =>
    rcases okT_five7 h with rfl | rfl | rfl | rfl | rfl
    all_goals
      go_enter Tryz.func137, Tryz.ntmps137
      go_wp2
      go_ret
      exact Ret.mk rfl
  | false =>
    rw [tword_out h]
    have h' := of_decide_eq_false h
    have e1 : (ty == 1) = false := ieq_f (by omega)
    have e2 : (ty == 2) = false := ieq_f (by omega)
    have e3 : (ty == 3) = false := ieq_f (by omega)
    have e4 : (ty == 4) = false := ieq_f (by omega)
    have e5 : (ty == 5) = false := ieq_f (by omega)
    clear h h'
    go_enter Tryz.func137, Tryz.ntmps137
    go_wp2
    go_ret
    exact Ret.mk rfl
set_option maxRecDepth 100000 in
set_option maxHeartbeats 1000000 in
theorem greatest_any (ty : Int) (w : World) : Calls Tryz.prog 138 #[.int .i64 ty] w (Ret (.int .i64 (gsc ty)) w) := by
  unfold gsc
  by_cases h : ty = 5
  · subst h
    go_enter Tryz.func138, Tryz.ntmps138
    go_wp2
    go_ret
    exact Ret.mk rfl
  · rw [if_neg h]
    have e5 := ieq_f h
    go_enter Tryz.func138, Tryz.ntmps138
    go_wp2
    go_ret
    exact Ret.mk rfl
set_option maxRecDepth 100000 in
set_option maxHeartbeats 4000000 in
theorem checkCol_any (cs : List Col) (v : Value) (key : Int) (i : Nat) (W : World) (hr : RdC W W.heap.size v cs) (hi : i < cs.length) :
    Calls Tryz.prog 99 #[.agg #[v, .int .i64 key], .int .i64 (i : Int)] W (RetB (.int .i64 (chkCol cs i : Nat)) W) := by
  have HF := fun nm (w : World) (hb : Below W.heap.size W w) => Lib.hid (find_any cs v key nm w (hr.step hb))
  have HN := fun s w => Lib.hid (name_any s w)
  have HW := fun t w => Lib.hid (wordOf_any t w)
  have HG := fun t w => Lib.hid (greatest_any t w)
  have hdup := fnd_dup hi
  have C1 := fun h => Lib.hid (chkCol_name (cs := cs) (i := i) h)
  have C2 := fun h h2 => Lib.hid (chkCol_dup (cs := cs) (i := i) h h2)
  have C3 := fun h h2 h3 => Lib.hid (chkCol_type (cs := cs) (i := i) h h2 h3)
  have C4 := fun h h2 h3 => Lib.hid (chkCol_scale (cs := cs) (i := i) h h2 h3)
  obtain ⟨A, c, rfl, hc, hm, hrr⟩ := hr
  obtain ⟨ad, rfl, hab, hat⟩ := hrr i hi
  clear hrr
  unfold maxLen at hm
  generalize cs.getD i col0 = C at *
  obtain ⟨cn, ct, csc, cnu⟩ := C
  have hB1 : Below W.heap.size W (W.alloc (.cells #[.slice (some ad) cs.length c, .int .i64 key] 24)) := (Below.refl _ _).alloc (Nat.le_refl _) _
  obtain ⟨q0, q1, q2, q3⟩ := hat.below hB1 hab
  have hV2 := Var2.new W (.slice (some ad) cs.length c) (.int .i64 key) 24
  have hV4 := Var4.new (W.alloc (.cells #[.slice (some ad) cs.length c, .int .i64 key] 24)) (.string cn) (.int .i64 ct) (.int .i64 csc) (.bool cnu) 62
  replace hV2 := hV2.step ((Below.refl _ _).alloc (Nat.le_refl _) (.cells #[.string cn, .int .i64 ct, .int .i64 csc, .bool cnu] 62))
  rw [show (W.alloc (.cells #[.slice (some ad) cs.length c, .int .i64 key] 24)).heap.size = W.heap.size + 1 from by simp] at hV4
  have hB : Below W.heap.size W ((W.alloc (.cells #[.slice (some ad) cs.length c, .int .i64 key] 24)).alloc (.cells #[.string cn, .int .i64 ct, .int .i64 csc, .bool cnu] 62)) := hB1.alloc hB1.size _
  have HNc := fun w => Lib.hid (HN cn w).out
  clear hB1 hat hab HN
  obtain ⟨k0, k1, k2, k3⟩ := hV4
  obtain ⟨l0, l1, _, _⟩ := hV2
  go_enter Tryz.func99, Tryz.ntmps99
  go_wp2_with fail
  clear q0 q1 q2 q3
  generalize hX : (W.alloc (.cells #[.slice (some ad) cs.length c, .int .i64 key] 24)).alloc (.cells #[.string cn, .int .i64 ct, .int .i64 csc, .bool cnu] 62) = X at *
  refine (HNc _).out.mono ?_
  rintro e w1 ⟨rfl, rfl⟩
  clear hX HNc
  cases hn : nameS cn with
  | false =>
    have HE := C1 hn
    clear C1 C2 C3 C4 hn HF HW HG hdup
    go_wp2_with fail
    go_ret
    exact RetB.mk (by rw [HE.out]; rfl) hB
  | true =>
  replace C2 := C2 hn
  replace C3 := C3 hn
  replace C4 := C4 hn
  clear C1 hn
  have HFc := Lib.hid (HF cn X hB).out
  have hV := fun (w : World) (hb : Below X.heap.size X w) => Lib.hid (And.intro (bel_trans hB hb) (And.intro (Var4.step (w' := w) ⟨k0, k1, k2, k3⟩ hb) (Nat.zero_le 0)))
  clear HF
  go_wp2_with fail
  refine HFc.out.mono ?_
  rintro e w2 ⟨rfl, hb⟩
  clear k0 k1 k2 k3 l0 l1 HFc hB
  obtain ⟨hB, ⟨k0, k1, k2, k3⟩, _⟩ := (hV w2 hb).out
  clear hV hb
  by_cases hd : fnd cs cn < (i : Int)
  · have HE := C2 (hdup.1 hd)
    have hd' : decide (fnd cs cn < (i : Int)) = true := decide_eq_true hd
    clear C2 C3 C4 HW HG hdup hd
    generalize fnd cs cn = F at *
    go_wp2_with fail
    go_ret
    exact RetB.mk (by rw [HE.out]; rfl) hB
  have hd' : decide (fnd cs cn < (i : Int)) = false := decide_eq_false hd
  replace C3 := C3 (fun h => hd (hdup.2 h))
  replace C4 := C4 (fun h => hd (hdup.2 h))
  clear C2 hdup hd
  generalize fnd cs cn = F at *
  have HWc := fun w => Lib.hid (HW ct w).out
  have HGc := fun w => Lib.hid (HG ct w).out
  clear HW HG
  cases ht : okT ct with
  | false =>
    have HE := C3 ht
    rw [tword_out ht] at HWc
    clear C3 C4 ht HGc
    go_wp2_with (go_at_call 137; refine (HWc _).out.mono ?_; rintro e w' ⟨rfl, rfl⟩)
    go_ret
    exact RetB.mk (by rw [HE.out]; rfl) hB
  | true =>
  have HE := C4 ht
  have hte := tword_in ht
  clear C3 C4
  generalize tword ct = TW at *
  by_cases hs : csc < 0
  · have hs' : decide (csc < 0) = true := decide_eq_true hs
    rw [if_pos (.inl hs)] at HE
    clear ht hs HGc
    go_wp2_with (go_at_call 137; refine (HWc _).out.mono ?_; rintro e w' ⟨rfl, rfl⟩)
    go_quiet (fail)
    go_wp2_with fail
    go_ret
    exact RetB.mk (by rw [HE.out]; rfl) (below_drewN hB _)
  have hs' : decide (csc < 0) = false := decide_eq_false hs
  by_cases hg : gsc ct < csc
  · have hg' : decide (gsc ct < csc) = true := decide_eq_true hg
    rw [if_pos (by unfold gsc at hg; split at hg <;> omega)] at HE
    clear ht hs hg
    generalize gsc ct = G at *
    go_wp2_with (go_at_call 137; refine (HWc _).out.mono ?_; rintro e w' ⟨rfl, rfl⟩)
    go_quiet (first | (go_at_call 138; refine quiet7 (HGc _).out))
    go_wp2_with fail
    go_ret
    exact RetB.mk (by rw [HE.out]; rfl) (below_drewN hB _)
  · have hg' : decide (gsc ct < csc) = false := decide_eq_false hg
    rw [if_neg (by unfold gsc at hg; split at hg <;> omega)] at HE
    clear ht hs hg
    generalize gsc ct = G at *
    go_wp2_with (go_at_call 137; refine (HWc _).out.mono ?_; rintro e w' ⟨rfl, rfl⟩)
    go_quiet (first | (go_at_call 138; refine quiet7 (HGc _).out))
    go_wp2_with fail
    go_ret
    exact RetB.mk (by rw [HE.out]; rfl) (below_drewN hB _)
end Go.Proofs.YtnmlajmaffiigaaGreatDoor

namespace Go.SC
open Go.RowKit Go.VB Go.VL
/-- A variable of four cells in block b, which can be written. -/
structure Var4F (w : World) (b : Nat) (x y z u : Value) : Prop where
  c0 : w.cell? ⟨b, 0, none⟩ = some x
  c1 : w.cell? ⟨b, 1, none⟩ = some y
  c2 : w.cell? ⟨b, 2, none⟩ = some z
  c3 : w.cell? ⟨b, 3, none⟩ = some u
  f0 : w.frozen? ⟨b, 0, none⟩ = false
  f1 : w.frozen? ⟨b, 1, none⟩ = false
  f2 : w.frozen? ⟨b, 2, none⟩ = false
  f3 : w.frozen? ⟨b, 3, none⟩ = false
theorem Var4F.new (w : World) (x y z u : Value) (T : TypeId) : Var4F (w.alloc (.cells #[x, y, z, u] T)) w.heap.size x y z u := by
  constructor <;> simp
theorem Var4F.lt {w : World} {b : Nat} {x y z u : Value} (h : Var4F w b x y z u) : b < w.heap.size := World.block_lt_of_cell? w _ h.c0
theorem Var4F.below {w w' : World} {b B : Nat} {x y z u : Value} (h : Var4F w b x y z u) (hb : Below B w w') (hB : b < B) : Var4F w' b x y z u := by
  constructor
  · rw [hb.cell hB]; exact h.c0
  · rw [hb.cell hB]; exact h.c1
  · rw [hb.cell hB]; exact h.c2
  · rw [hb.cell hB]; exact h.c3
  · rw [hb.frozen hB]; exact h.f0
  · rw [hb.frozen hB]; exact h.f1
  · rw [hb.frozen hB]; exact h.f2
  · rw [hb.frozen hB]; exact h.f3
theorem Var4F.step {w w' : World} {b : Nat} {x y z u : Value} (h : Var4F w b x y z u) (hb : Below w.heap.size w w') : Var4F w' b x y z u := h.below hb h.lt
theorem Var4F.set {w : World} {b : Nat} {x y z u : Value} (h : Var4F w b x y z u) (x' y' z' u' : Value) :
    Var4F ((((w.setCell ⟨b, 0, none⟩ x').setCell ⟨b, 1, none⟩ y').setCell ⟨b, 2, none⟩ z').setCell ⟨b, 3, none⟩ u') b x' y' z' u' := by
  have s1 := World.cell?_setCell_same w ⟨b, 0, none⟩ x' h.c0
  have k : ∀ (w : World) (i j : Nat) (v : Value), i ≠ j → (w.setCell ⟨b, i, none⟩ v).cell? ⟨b, j, none⟩ = w.cell? ⟨b, j, none⟩ := fun w i j v hij => World.cell?_setCell_other _ _ _ _ (fun e => hij (congrArg Addr.off e))
  constructor
  · rw [k _ 3 0 _ (by decide), k _ 2 0 _ (by decide), k _ 1 0 _ (by decide)]; exact World.cell?_setCell_same _ _ _ h.c0
  · rw [k _ 3 1 _ (by decide), k _ 2 1 _ (by decide)]; exact World.cell?_setCell_same _ _ _ ((k _ 0 1 _ (by decide)).trans h.c1)
  · rw [k _ 3 2 _ (by decide)]; exact World.cell?_setCell_same _ _ _ ((k _ 1 2 _ (by decide)).trans ((k _ 0 2 _ (by decide)).trans h.c2))
  · exact World.cell?_setCell_same _ _ _ ((k _ 2 3 _ (by decide)).trans ((k _ 1 3 _ (by decide)).trans ((k _ 0 3 _ (by decide)).trans h.c3)))
  all_goals
    simp only [World.frozen?_setCell]
    first | exact h.f0 | exact h.f1 | exact h.f2 | exact h.f3
end Go.SC
