/- Layer 7: schemas: names, columns, their checks; slices of columns in memory. -/
import Derived.Test.YtjbkeipagdmlpaaVal
import Derived.Lib.Bytealg
import Derived.Lib.Strings
import Derived.Deep.Slices
namespace Go.SC
open Go.RowKit Go.VB Go.VL

/-- A column. -/
structure Col where
  nm : ByteArray
  ty : Int
  sc : Int
  nu : Bool
def col0 : Col := ⟨⟨#[]⟩, 0, 0, false⟩
def Col.cells (c : Col) : List Value := [.string c.nm, .int .i64 c.ty, .int .i64 c.sc, .bool c.nu]
def Col.val (c : Col) : Value := .agg #[.string c.nm, .int .i64 c.ty, .int .i64 c.sc, .bool c.nu]

/-! ### names -/
def lowN (n : Nat) : Bool := decide (97 ≤ n ∧ n ≤ 122)
def digN (n : Nat) : Bool := decide (48 ≤ n ∧ n ≤ 57)
/-- Byte i of a name may be n. -/
def nmN (i n : Nat) : Bool := lowN n || (decide (i ≠ 0) && (digN n || decide (n = 95)))
def keyS : ByteArray := ⟨#[107, 101, 121]⟩
def nameS (s : ByteArray) : Bool := decide (1 ≤ s.size ∧ s.size ≤ 16 ∧ ¬ s = keyS) && (List.range s.size).all fun i => nmN i (bN s i)
theorem nameS_t {s : ByteArray} (h : 1 ≤ s.size ∧ s.size ≤ 16 ∧ ¬ s = keyS) (h2 : ∀ i, i < s.size → nmN i (bN s i) = true) : nameS s = true := by
  unfold nameS
  rw [decide_eq_true h, Bool.true_and, List.all_eq_true]
  intro i hi
  exact h2 i (List.mem_range.1 hi)
theorem nameS_f1 {s : ByteArray} (h : ¬ (1 ≤ s.size ∧ s.size ≤ 16 ∧ ¬ s = keyS)) : nameS s = false := by
  unfold nameS
  rw [decide_eq_false h, Bool.false_and]
theorem nameS_f2 {s : ByteArray} {i : Nat} (hi : i < s.size) (h2 : nmN i (bN s i) = false) : nameS s = false := by
  cases hn : nameS s with
  | false => rfl
  | true =>
    unfold nameS at hn
    have := List.all_eq_true.1 (Bool.and_eq_true_iff.1 hn).2 i (List.mem_range.2 hi)
    rw [h2] at this; cases this
theorem nameS_ok {s : ByteArray} (h : nameS s = true) : (1 ≤ s.size ∧ s.size ≤ 16 ∧ ¬ s = keyS) ∧ ∀ i, i < s.size → nmN i (bN s i) = true := by
  unfold nameS at h
  obtain ⟨h1, h2⟩ := Bool.and_eq_true_iff.1 h
  exact ⟨of_decide_eq_true h1, fun i hi => List.all_eq_true.1 h2 i (List.mem_range.2 hi)⟩

/-! ### the first column with a name -/
def fnd : List Col → ByteArray → Int
  | [], _ => -1
  | c :: r, nm => if c.nm = nm then 0 else if fnd r nm < 0 then -1 else fnd r nm + 1
theorem fnd_ge (nm : ByteArray) : ∀ cs : List Col, -1 ≤ fnd cs nm ∧ fnd cs nm < cs.length
  | [] => ⟨Int.le_refl _, by show (-1 : Int) < 0; decide⟩
  | c :: r => by
    have := fnd_ge nm r
    unfold fnd
    rw [List.length_cons]
    split
    · omega
    · split <;> omega
theorem fnd_hit {nm : ByteArray} : ∀ {cs : List Col} {i : Nat}, i < cs.length → (cs.getD i col0).nm = nm → (∀ j, j < i → ¬ (cs.getD j col0).nm = nm) → fnd cs nm = i
  | [], i, h, _, _ => absurd h (Nat.not_lt_zero _)
  | c :: r, 0, _, h1, _ => by
    have h1' : c.nm = nm := h1
    unfold fnd; rw [if_pos h1']; rfl
  | c :: r, i + 1, h, h1, h2 => by
    have h3 := fnd_hit (cs := r) (i := i) (by simpa using h) h1 (fun j hj => h2 (j + 1) (by omega))
    have h4 : ¬ c.nm = nm := h2 0 (by omega)
    unfold fnd
    rw [if_neg h4, h3, if_neg (by omega)]; omega
theorem fnd_miss {nm : ByteArray} : ∀ {cs : List Col}, (∀ j, j < cs.length → ¬ (cs.getD j col0).nm = nm) → fnd cs nm = -1
  | [], _ => rfl
  | c :: r, h => by
    have h3 := fnd_miss (cs := r) (fun j hj => h (j + 1) (by simpa using hj))
    have h4 : ¬ c.nm = nm := h 0 (by simp)
    unfold fnd
    rw [if_neg h4, h3]; rfl
/-- What Find's answer says. -/
theorem fnd_lt {nm : ByteArray} {cs : List Col} {i : Nat} (hi : i ≤ cs.length) : (0 ≤ fnd cs nm ∧ fnd cs nm < i) ↔ ∃ j, j < i ∧ (cs.getD j col0).nm = nm := by
  induction cs generalizing i with
  | nil =>
    constructor
    · intro h; exact absurd h.1 (by show ¬ (0 : Int) ≤ -1; decide)
    · rintro ⟨j, hj, _⟩; simp at hi; omega
  | cons c r ih =>
    constructor
    · intro h
      by_cases h0 : c.nm = nm
      · exact ⟨0, by omega, h0⟩
      · unfold fnd at h
        rw [if_neg h0] at h
        by_cases h1 : fnd r nm < 0
        · rw [if_pos h1] at h; omega
        · rw [if_neg h1] at h
          obtain ⟨j, hj, he⟩ := (ih (i := i - 1) (by simp at hi; omega)).1 ⟨by omega, by omega⟩
          exact ⟨j + 1, by omega, he⟩
    · rintro ⟨j, hj, he⟩
      by_cases h0 : c.nm = nm
      · unfold fnd; rw [if_pos h0]; omega
      · match j, he with
        | 0, he => exact absurd he h0
        | j + 1, he =>
          have := (ih (i := i - 1) (by simp at hi; omega)).2 ⟨j, by omega, he⟩
          unfold fnd
          rw [if_neg h0, if_neg (by omega)]; omega

/-! ### what Check returns -/
def chkCol (cs : List Col) (i : Nat) : Nat :=
  let c := cs.getD i col0
  if nameS c.nm = false then 3 else if (∃ j, j < i ∧ (cs.getD j col0).nm = c.nm) then 5 else if okT c.ty = false then 11
  else if c.sc < 0 ∨ 18 < c.sc ∨ (c.ty ≠ 5 ∧ c.sc ≠ 0) then 4 else 0
/-- The first error of the columns from i on, n of them. -/
def chkFrom (cs : List Col) : Nat → Nat → Nat
  | _, 0 => 0
  | i, n + 1 => if chkCol cs i = 0 then chkFrom cs (i + 1) n else chkCol cs i
def chkS (cs : List Col) (key : Int) : Nat :=
  if cs.length = 0 then 1 else if 12 < cs.length then 7 else if chkFrom cs 0 cs.length ≠ 0 then chkFrom cs 0 cs.length
  else if key < 0 ∨ (cs.length : Int) ≤ key then 4 else 0
theorem chkFrom_hit {cs : List Col} : ∀ {n i j : Nat}, j < n → (∀ k, k < j → chkCol cs (i + k) = 0) → ¬ chkCol cs (i + j) = 0 → chkFrom cs i n = chkCol cs (i + j)
  | 0, _, _, h, _, _ => absurd h (Nat.not_lt_zero _)
  | n + 1, i, 0, _, _, h2 => by
    have h2' : ¬ chkCol cs i = 0 := h2
    show (if chkCol cs i = 0 then chkFrom cs (i + 1) n else chkCol cs i) = chkCol cs i
    rw [if_neg h2']
  | n + 1, i, j + 1, h, h1, h2 => by
    have h3 : chkCol cs i = 0 := h1 0 (by omega)
    unfold chkFrom
    rw [if_pos h3, chkFrom_hit (i := i + 1) (j := j) (by omega) (fun k hk => by have := h1 (k + 1) (by omega); rwa [← Nat.add_assoc, Nat.add_right_comm] at this) (by rwa [← Nat.add_assoc, Nat.add_right_comm] at h2), Nat.add_right_comm, Nat.add_assoc]
theorem chkFrom_none {cs : List Col} : ∀ {n i : Nat}, (∀ k, k < n → chkCol cs (i + k) = 0) → chkFrom cs i n = 0
  | 0, _, _ => rfl
  | n + 1, i, h => by
    have h0 : chkCol cs i = 0 := h 0 (by omega)
    unfold chkFrom
    rw [if_pos h0, chkFrom_none (fun k hk => by have := h (k + 1) (by omega); rwa [← Nat.add_assoc, Nat.add_right_comm] at this)]
theorem chkFrom_zero {cs : List Col} : ∀ {n i : Nat}, chkFrom cs i n = 0 → ∀ k, k < n → chkCol cs (i + k) = 0
  | 0, _, _, _, hk => absurd hk (Nat.not_lt_zero _)
  | n + 1, i, h, k, hk => by
    unfold chkFrom at h
    by_cases h0 : chkCol cs i = 0
    · rw [if_pos h0] at h
      match k with
      | 0 => exact h0
      | k + 1 => have := chkFrom_zero h k (by omega); rwa [← Nat.add_assoc, Nat.add_right_comm]
    · rw [if_neg h0] at h; exact absurd h h0
theorem chkS_hit {cs : List Col} {key : Int} {j : Nat} (h12 : cs.length ≤ 12) (hj : j < cs.length) (h1 : ∀ k, k < j → chkCol cs k = 0) (h2 : ¬ chkCol cs j = 0) : chkS cs key = chkCol cs j := by
  have h := chkFrom_hit (i := 0) hj (fun k hk => by rw [Nat.zero_add]; exact h1 k hk) (by rwa [Nat.zero_add])
  rw [Nat.zero_add] at h
  unfold chkS
  rw [if_neg (by omega), if_neg (by omega), h, if_pos h2]
theorem chkS_end {cs : List Col} {key : Int} (h0 : cs.length ≠ 0) (h12 : cs.length ≤ 12) (h1 : ∀ k, k < cs.length → chkCol cs k = 0) : chkS cs key = if key < 0 ∨ (cs.length : Int) ≤ key then 4 else 0 := by
  unfold chkS
  rw [if_neg h0, if_neg (by omega), chkFrom_none (fun k hk => by rw [Nat.zero_add]; exact h1 k hk), if_neg (by simp)]
theorem chkS_ok {cs : List Col} {key : Int} (h : chkS cs key = 0) : cs.length ≠ 0 ∧ cs.length ≤ 12 ∧ (∀ k, k < cs.length → chkCol cs k = 0) ∧ 0 ≤ key ∧ key < cs.length := by
  unfold chkS at h
  split at h
  · cases h
  · split at h
    · cases h
    · split at h
      · contradiction
      · split at h
        · cases h
        · refine ⟨by omega, by omega, fun k hk => ?_, by omega, by omega⟩
          have := chkFrom_zero (cs := cs) (n := cs.length) (i := 0) (by omega) k hk
          rwa [Nat.zero_add] at this
theorem chkCol_ok {cs : List Col} {i : Nat} (h : chkCol cs i = 0) : nameS (cs.getD i col0).nm = true ∧ (¬ ∃ j, j < i ∧ (cs.getD j col0).nm = (cs.getD i col0).nm) ∧ okT (cs.getD i col0).ty = true ∧
    0 ≤ (cs.getD i col0).sc ∧ (cs.getD i col0).sc ≤ 18 ∧ ((cs.getD i col0).ty ≠ 5 → (cs.getD i col0).sc = 0) := by
  unfold chkCol at h
  simp only at h
  split at h
  · cases h
  · split at h
    · cases h
    · split at h
      · cases h
      · split at h
        · cases h
        · refine ⟨by simpa using ‹¬ nameS _ = false›, by assumption, by simpa using ‹¬ okT _ = false›, by omega, by omega, fun h5 => ?_⟩
          omega
theorem chkCol_name {cs : List Col} {i : Nat} (h : nameS (cs.getD i col0).nm = false) : chkCol cs i = 3 := by
  unfold chkCol; simp only; rw [if_pos h]
theorem chkCol_dup {cs : List Col} {i : Nat} (h : nameS (cs.getD i col0).nm = true) (h2 : ∃ j, j < i ∧ (cs.getD j col0).nm = (cs.getD i col0).nm) : chkCol cs i = 5 := by
  unfold chkCol; simp only; rw [if_neg (by rw [h]; simp), if_pos h2]
theorem chkCol_type {cs : List Col} {i : Nat} (h : nameS (cs.getD i col0).nm = true) (h2 : ¬ ∃ j, j < i ∧ (cs.getD j col0).nm = (cs.getD i col0).nm) (h3 : okT (cs.getD i col0).ty = false) : chkCol cs i = 11 := by
  unfold chkCol; simp only; rw [if_neg (by rw [h]; simp), if_neg h2, if_pos h3]
theorem chkCol_scale {cs : List Col} {i : Nat} (h : nameS (cs.getD i col0).nm = true) (h2 : ¬ ∃ j, j < i ∧ (cs.getD j col0).nm = (cs.getD i col0).nm) (h3 : okT (cs.getD i col0).ty = true) :
    chkCol cs i = if (cs.getD i col0).sc < 0 ∨ 18 < (cs.getD i col0).sc ∨ ((cs.getD i col0).ty ≠ 5 ∧ (cs.getD i col0).sc ≠ 0) then 4 else 0 := by
  unfold chkCol; simp only; rw [if_neg (by rw [h]; simp), if_neg h2, if_neg (by rw [h3]; simp)]

/-! ### slices of columns -/
/-- The four cells of column j of a slice that begins at ad, as a load spells them. -/
structure At4 (w : World) (ad : Addr) (j : Nat) (c : Col) : Prop where
  c0 : w.cell? (ad.add (j * 4)) = some (.string c.nm)
  c1 : w.cell? ⟨(ad.add (j * 4)).block, (ad.add (j * 4)).off + 1, none⟩ = some (.int .i64 c.ty)
  c2 : w.cell? ⟨(ad.add (j * 4)).block, (ad.add (j * 4)).off + 2, none⟩ = some (.int .i64 c.sc)
  c3 : w.cell? ⟨(ad.add (j * 4)).block, (ad.add (j * 4)).off + 3, none⟩ = some (.bool c.nu)
theorem at_off (a : Addr) (n k : Nat) (hk : k ≠ 0) : a.add (n + k) = ⟨(a.add n).block, (a.add n).off + k, none⟩ := by
  rw [← Go.Deep.add_add]
  show (a.add n).add k = _
  generalize a.add n = b
  unfold Addr.add
  rw [if_neg hk]
theorem At4.mk' {w : World} {ad : Addr} {j : Nat} {c : Col} (h0 : w.cell? (ad.add (j * 4)) = some (.string c.nm)) (h1 : w.cell? (ad.add (j * 4 + 1)) = some (.int .i64 c.ty)) (h2 : w.cell? (ad.add (j * 4 + 2)) = some (.int .i64 c.sc))
    (h3 : w.cell? (ad.add (j * 4 + 3)) = some (.bool c.nu)) : At4 w ad j c :=
  ⟨h0, by rw [← at_off _ _ _ (by decide)]; exact h1, by rw [← at_off _ _ _ (by decide)]; exact h2, by rw [← at_off _ _ _ (by decide)]; exact h3⟩
/-- The slice v can be read and holds the columns cs; it lies below block B. -/
def RdC (w : World) (B : Nat) (v : Value) (cs : List Col) : Prop :=
  ∃ A c, v = .slice A cs.length c ∧ cs.length ≤ c ∧ c ≤ maxLen ∧ ∀ i, i < cs.length → ∃ ad, A = some ad ∧ ad.block < B ∧ At4 w ad i (cs.getD i col0)
theorem RdC.nil (w : World) (B : Nat) : RdC w B (.slice none 0 0) [] := ⟨none, 0, rfl, Nat.le_refl _, Nat.zero_le _, fun _ hi => absurd hi (Nat.not_lt_zero _)⟩
theorem At4.below {w w' : World} {B : Nat} {ad : Addr} {j : Nat} {c : Col} (h : At4 w ad j c) (hb : Below B w w') (hB : ad.block < B) : At4 w' ad j c := by
  have hlt : (ad.add (j * 4)).block < B := by rw [block_add]; exact hB
  exact ⟨(hb.cell hlt).trans h.c0, (hb.cell (p := ⟨(ad.add (j * 4)).block, _, none⟩) hlt).trans h.c1, (hb.cell (p := ⟨(ad.add (j * 4)).block, _, none⟩) hlt).trans h.c2, (hb.cell (p := ⟨(ad.add (j * 4)).block, _, none⟩) hlt).trans h.c3⟩
theorem RdC.below {w w' : World} {B : Nat} {v : Value} {cs : List Col} (h : RdC w B v cs) (hb : Below B w w') : RdC w' B v cs := by
  obtain ⟨A, c, hv, hc, hm, hr⟩ := h
  refine ⟨A, c, hv, hc, hm, fun i hi => ?_⟩
  obtain ⟨ad, h1, h2, h3⟩ := hr i hi
  exact ⟨ad, h1, h2, h3.below hb h2⟩
theorem RdC.more {w : World} {B B' : Nat} {v : Value} {cs : List Col} (h : RdC w B v cs) (hB : B ≤ B') : RdC w B' v cs := by
  obtain ⟨A, c, hv, hc, hm, hr⟩ := h
  refine ⟨A, c, hv, hc, hm, fun i hi => ?_⟩
  obtain ⟨ad, h1, h2, h3⟩ := hr i hi
  exact ⟨ad, h1, by omega, h3⟩
theorem RdC.step {w w' : World} {v : Value} {cs : List Col} (h : RdC w w.heap.size v cs) (hb : Below w.heap.size w w') : RdC w' w'.heap.size v cs := (h.below hb).more hb.size
/-- The cells of columns, one after another. -/
def colCells (cs : List Col) : List Value := cs.flatMap Col.cells
theorem colCells_len : ∀ cs : List Col, (colCells cs).length = cs.length * 4
  | [] => rfl
  | c :: r => by
    show (c.cells ++ colCells r).length = _
    rw [List.length_append, colCells_len r, List.length_cons]
    show 4 + _ = _
    omega
theorem colCells_app (a b : List Col) : colCells (a ++ b) = colCells a ++ colCells b := List.flatMap_append
theorem colCells_get : ∀ (cs : List Col) (i k : Nat), i < cs.length → k < 4 → (colCells cs)[i * 4 + k]? = (cs.getD i col0).cells[k]?
  | [], i, _, h, _ => absurd h (Nat.not_lt_zero _)
  | c :: r, 0, k, _, hk => by
    show (c.cells ++ colCells r)[0 * 4 + k]? = _
    rw [Nat.zero_mul, Nat.zero_add, List.getElem?_append_left (show k < c.cells.length from hk)]; rfl
  | c :: r, i + 1, k, h, hk => by
    show (c.cells ++ colCells r)[(i + 1) * 4 + k]? = _
    rw [List.getElem?_append_right (show c.cells.length ≤ (i + 1) * 4 + k from by show 4 ≤ _; omega), show (i + 1) * 4 + k - c.cells.length = i * 4 + k from by show _ - 4 = _; omega,
      colCells_get r i k (by simpa using h) hk]; rfl
theorem colCells_one (cs : List Col) : ∀ u ∈ colCells cs, u.oneCell' = true := by
  intro u hu
  obtain ⟨c, _, hc⟩ := List.mem_flatMap.1 hu
  simp only [Col.cells, List.mem_cons, List.not_mem_nil, or_false] at hc
  rcases hc with rfl | rfl | rfl | rfl <;> rfl
/-- The slice v is the call's own and holds the columns cs. -/
def OwnC (e : TypeId) (w : World) (base : Nat) (v : Value) (cs : List Col) : Prop := w.ownsRow base e 4 v cs.length (colCells cs)
theorem OwnC.nil (e : TypeId) (w : World) (base : Nat) : OwnC e w base (.slice none 0 0) [] := World.ownsRow_nil w base e 4
theorem OwnC.alloc {e : TypeId} {w : World} {base : Nat} {v : Value} {cs : List Col} (h : OwnC e w base v cs) (o : Obj) : OwnC e (w.alloc o) base v cs := World.ownsRow.alloc h o
theorem OwnC.drew {e : TypeId} {w : World} {base : Nat} {v : Value} {cs : List Col} (h : OwnC e w base v cs) : OwnC e w.drew base v cs := h
theorem OwnC.lower {e : TypeId} {w : World} {base b' : Nat} {v : Value} {cs : List Col} (h : OwnC e w base v cs) (hb : b' ≤ base) : OwnC e w b' v cs := Joins.ownsRow_le h hb
theorem OwnC.lt {e : TypeId} {w : World} {base : Nat} {v : Value} {cs : List Col} (h : OwnC e w base v cs) : ∀ b, v.ownBlock = some b → base ≤ b ∧ b < w.heap.size := World.ownsRow.lt h
theorem OwnC.below {e : TypeId} {w w' : World} {base : Nat} {v : Value} {cs : List Col} (h : OwnC e w base v cs) (hb : Below w.heap.size w w') : OwnC e w' base v cs := by
  refine World.ownsRow.kept (row := none) h ⟨hb.os, hb.tape, hb.output, hb.size, fun b hlt _ => hb.block b hlt⟩ ?_
  rcases hv : v.ownBlock with _ | b
  · exact .inl rfl
  · exact .inr (by simp)
theorem OwnC.read {e : TypeId} {w : World} {base : Nat} {v : Value} {cs : List Col} (h : OwnC e w base v cs) : RdC w w.heap.size v cs := by
  have hlt := h.lt
  rcases h.2 with ⟨rfl, hn⟩ | ⟨g, c, cur, rfl, _, _, h3, h4, _⟩
  · have := List.eq_nil_of_length_eq_zero hn
    subst this
    exact RdC.nil _ _
  · refine ⟨some ⟨g, 0, none⟩, c, rfl, h3, h4, fun i hi => ⟨_, rfl, (hlt g rfl).2, ?_⟩⟩
    have key : ∀ k u, k < 4 → (cs.getD i col0).cells[k]? = some u → w.cell? ((⟨g, 0, none⟩ : Addr).add (i * 4 + k)) = some u := fun k u hk hu =>
      World.ownsRow.cells h (g := g) rfl (i * 4 + k) u (by rw [colCells_get cs i k hi hk]; exact hu)
    exact At4.mk' (key 0 _ (by decide) rfl) (key 1 _ (by decide) rfl) (key 2 _ (by decide) rfl) (key 3 _ (by decide) rfl)
end Go.SC
