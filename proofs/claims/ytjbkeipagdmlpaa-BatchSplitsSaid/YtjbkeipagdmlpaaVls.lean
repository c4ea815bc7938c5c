/- Slices of values, three cells each: what can be read, rows that a call owns, append, cuts, what comes in. -/
import Derived.Test.YtjbkeipagdmlpaaVal
import Derived.Test.YtjbkeipagdmlpaaMemV
import Derived.Deep.Slices
namespace Go.VS
open Go.RowKit Go.VB
/-- A value. -/
structure Vl where
  nu : Bool
  n : Int
  s : ByteArray
def vl0 : Vl := ⟨false, 0, ⟨#[]⟩⟩
def Vl.cells (v : Vl) : List Value := [.bool v.nu, .int .i64 v.n, .string v.s]
def Vl.val (v : Vl) : Value := .agg #[.bool v.nu, .int .i64 v.n, .string v.s]
structure At3 (w : World) (ad : Addr) (j : Nat) (x : Vl) : Prop where
  c0 : w.cell? (ad.add (j * 3)) = some (.bool x.nu)
  c1 : w.cell? ⟨(ad.add (j * 3)).block, (ad.add (j * 3)).off + 1, none⟩ = some (.int .i64 x.n)
  c2 : w.cell? ⟨(ad.add (j * 3)).block, (ad.add (j * 3)).off + 2, none⟩ = some (.string x.s)
theorem addr_addV (a : Addr) (i j : Nat) : (a.add i).add j = a.add (i + j) := by
  unfold Addr.add
  by_cases hi : i = 0
  · subst hi; simp
  · by_cases hj : j = 0
    · subst hj; simp [hi]
    · simp [hi, hj, Nat.add_assoc]
theorem at_off3 (a : Addr) (n k : Nat) (hk : k ≠ 0) : a.add (n + k) = ⟨(a.add n).block, (a.add n).off + k, none⟩ := by
  rw [← addr_addV]
  show (a.add n).add k = _
  generalize a.add n = b
  unfold Addr.add
  rw [if_neg hk]
theorem At3.mk' {w : World} {ad : Addr} {j : Nat} {x : Vl} (h0 : w.cell? (ad.add (j * 3)) = some (.bool x.nu)) (h1 : w.cell? (ad.add (j * 3 + 1)) = some (.int .i64 x.n)) (h2 : w.cell? (ad.add (j * 3 + 2)) = some (.string x.s)) : At3 w ad j x :=
  ⟨h0, by rw [← at_off3 _ _ _ (by decide)]; exact h1, by rw [← at_off3 _ _ _ (by decide)]; exact h2⟩
theorem At3.below {w w' : World} {B : Nat} {ad : Addr} {j : Nat} {x : Vl} (h : At3 w ad j x) (hb : Below B w w') (hB : ad.block < B) : At3 w' ad j x := by
  have hlt : (ad.add (j * 3)).block < B := by rw [block_add]; exact hB
  exact ⟨(hb.cell hlt).trans h.c0, (hb.cell (p := ⟨(ad.add (j * 3)).block, _, none⟩) hlt).trans h.c1, (hb.cell (p := ⟨(ad.add (j * 3)).block, _, none⟩) hlt).trans h.c2⟩
theorem At3.cell {w : World} {ad : Addr} {j : Nat} {x : Vl} (h : At3 w ad j x) {k : Nat} {u : Value} (hu : x.cells[k]? = some u) : w.cell? (ad.add (j * 3 + k)) = some u := by
  match k, hu with
  | 0, hu => cases hu; exact h.c0
  | 1, hu => cases hu; rw [at_off3 _ _ _ (by decide)]; exact h.c1
  | 2, hu => cases hu; rw [at_off3 _ _ _ (by decide)]; exact h.c2
theorem At3.shift {w : World} {ad : Addr} {i j : Nat} {x : Vl} (h : At3 w ad (i + j) x) : At3 w (ad.add (i * 3)) j x := by
  have e : ∀ k, (ad.add (i * 3)).add (j * 3 + k) = ad.add ((i + j) * 3 + k) := fun k => by rw [addr_addV]; congr 1; omega
  exact At3.mk' (by have := e 0; simp only [Nat.add_zero] at this; rw [this]; exact h.c0) (by rw [e 1]; exact h.cell (k := 1) rfl) (by rw [e 2]; exact h.cell (k := 2) rfl)
/-- The slice v can be read and holds the values l; it lies below block B. -/
def RdL (w : World) (B : Nat) (v : Value) (l : List Vl) : Prop :=
  ∃ A c, v = .slice A l.length c ∧ l.length ≤ c ∧ c ≤ maxLen ∧ ∀ i x, l[i]? = some x → ∃ ad, A = some ad ∧ ad.block < B ∧ At3 w ad i x
section
variable {w w' : World} {B B' base c n k : Nat} {v : Value} {l m : List Vl} {e : TypeId} {A : Option Addr} {ad : Addr} {x : Vl} {i : Nat}
theorem RdL.nil (w : World) (B : Nat) : RdL w B (.slice none 0 0) [] := ⟨none, 0, rfl, Nat.le_refl _, Nat.zero_le _, fun i x hx => by simp at hx⟩
theorem RdL.below (h : RdL w B v l) (hb : Below B w w') : RdL w' B v l := by
  obtain ⟨A, c, hv, hc, hm, hr⟩ := h
  refine ⟨A, c, hv, hc, hm, fun i x hi => ?_⟩
  obtain ⟨ad, h1, h2, h3⟩ := hr i x hi
  exact ⟨ad, h1, h2, h3.below hb h2⟩
theorem RdL.more (h : RdL w B v l) (hB : B ≤ B') : RdL w B' v l := by
  obtain ⟨A, c, hv, hc, hm, hr⟩ := h
  refine ⟨A, c, hv, hc, hm, fun i x hi => ?_⟩
  obtain ⟨ad, h1, h2, h3⟩ := hr i x hi
  exact ⟨ad, h1, by omega, h3⟩
theorem RdL.step (h : RdL w w.heap.size v l) (hb : Below w.heap.size w w') : RdL w' w'.heap.size v l := (h.below hb).more hb.size
theorem RdL.at (h : RdL w B (.slice A n c) l) (hx : l[i]? = some x) : ∃ ad, A = some ad ∧ ad.block < B ∧ At3 w ad i x := by
  obtain ⟨A', c', hv, _, _, hr⟩ := h
  cases hv
  exact hr i x hx
theorem RdL.bds (h : RdL w B v l) : ∃ A c n, v = .slice A n c ∧ n = l.length ∧ n ≤ c ∧ c ≤ 9223372036854775807 := by
  obtain ⟨A, c, rfl, h1, h2, _⟩ := h
  exact ⟨A, c, _, rfl, rfl, h1, h2⟩
/-- l[:k]. -/
theorem RdL.head (h : RdL w B (.slice A n c) l) (hm : m = l.take m.length) (hl : m.length ≤ l.length) : RdL w B (.slice A m.length c) m := by
  obtain ⟨A', c', hv, hc, hx, hr⟩ := h
  cases hv
  refine ⟨A, c, rfl, by omega, hx, fun i x hi => hr i x ?_⟩
  have hil : i < m.length := (List.getElem?_eq_some_iff.1 hi).1
  rw [hm, List.getElem?_take, if_pos hil] at hi
  exact hi
/-- l[i:]. -/
theorem RdL.tail (h : RdL w B (.slice (some ad) n c) l) (i : Nat) (hi : i ≤ l.length) : RdL w B (.slice (some (ad.add (i * 3))) (n - i) (c - i)) (l.drop i) := by
  obtain ⟨A', c', hv, hc, hm, hr⟩ := h
  cases hv
  refine ⟨_, c - i, by rw [List.length_drop], by rw [List.length_drop]; omega, by omega, fun j x hx => ⟨_, rfl, ?_⟩⟩
  rw [List.getElem?_drop] at hx
  obtain ⟨ad', h1, h2, h3⟩ := hr (i + j) x hx
  cases h1
  exact ⟨by rw [block_add]; exact h2, h3.shift⟩
/-- The cells of values, one after another. -/
def vlCells (l : List Vl) : List Value := l.flatMap Vl.cells
theorem vlCells_len : ∀ l : List Vl, (vlCells l).length = l.length * 3
  | [] => rfl
  | x :: r => by
    show (x.cells ++ vlCells r).length = _
    rw [List.length_append, vlCells_len r, List.length_cons]
    show 3 + _ = _
    omega
theorem vlCells_app (a b : List Vl) : vlCells (a ++ b) = vlCells a ++ vlCells b := List.flatMap_append
theorem vlCells_get : ∀ (l : List Vl) (i k : Nat) (x : Vl), l[i]? = some x → k < 3 → (vlCells l)[i * 3 + k]? = x.cells[k]?
  | [], i, _, _, h, _ => by simp at h
  | y :: r, 0, k, x, h, hk => by
    simp at h; subst h
    show (y.cells ++ vlCells r)[0 * 3 + k]? = _
    rw [Nat.zero_mul, Nat.zero_add, List.getElem?_append_left (show k < y.cells.length from hk)]
  | y :: r, i + 1, k, x, h, hk => by
    show (y.cells ++ vlCells r)[(i + 1) * 3 + k]? = _
    rw [List.getElem?_append_right (show y.cells.length ≤ (i + 1) * 3 + k from by show 3 ≤ _; omega), show (i + 1) * 3 + k - y.cells.length = i * 3 + k from by show _ - 3 = _; omega,
      vlCells_get r i k x (by simpa using h) hk]
theorem vlCells_one (l : List Vl) : ∀ u ∈ vlCells l, u.oneCell' = true := by
  intro u hu
  obtain ⟨x, _, hx⟩ := List.mem_flatMap.1 hu
  simp only [Vl.cells, List.mem_cons, List.not_mem_nil, or_false] at hx
  rcases hx with rfl | rfl | rfl <;> rfl
theorem vlCells_at {j : Nat} {u : Value} (hu : (vlCells l)[j]? = some u) : ∃ x, l[j / 3]? = some x ∧ x.cells[j % 3]? = some u := by
  have hj : j < (vlCells l).length := (List.getElem?_eq_some_iff.1 hu).1
  rw [vlCells_len] at hj
  have hx : l[j / 3]? = some (l[j / 3]'(by omega)) := List.getElem?_eq_getElem _
  refine ⟨_, hx, ?_⟩
  have := vlCells_get l (j / 3) (j % 3) _ hx (by omega)
  rw [show j / 3 * 3 + j % 3 = j from by omega] at this
  rw [← this, hu]
theorem RdL.cells (h : RdL w B (.slice (some ad) n c) l) : ∀ j u, (vlCells l)[j]? = some u → w.cell? (ad.add j) = some u := fun j u hu => by
  obtain ⟨x, hx, hc⟩ := vlCells_at hu
  obtain ⟨_, e1, _, h3⟩ := h.at hx
  cases e1
  have := h3.cell hc
  rwa [show j / 3 * 3 + j % 3 = j from by omega] at this
/-- The slice v is the call's own and holds the values l. -/
def OwnL (e : TypeId) (w : World) (base : Nat) (v : Value) (l : List Vl) : Prop := w.ownsRow base e 3 v l.length (vlCells l)
theorem OwnL.nil (e : TypeId) (w : World) (base : Nat) : OwnL e w base (.slice none 0 0) [] := World.ownsRow_nil w base e 3
theorem OwnL.alloc (h : OwnL e w base v l) (o : Obj) : OwnL e (w.alloc o) base v l := World.ownsRow.alloc h o
theorem OwnL.drew (h : OwnL e w base v l) : OwnL e w.drew base v l := h
theorem OwnL.lower (h : OwnL e w base v l) {b' : Nat} (hb : b' ≤ base) : OwnL e w b' v l := Joins.ownsRow_le h hb
theorem OwnL.lt (h : OwnL e w base v l) : ∀ b, v.ownBlock = some b → base ≤ b ∧ b < w.heap.size := World.ownsRow.lt h
theorem OwnL.keep {row : Option Nat} (h : OwnL e w base v l) (hg : w.grownBy w' row) (hne : v.ownBlock = none ∨ v.ownBlock ≠ row) : OwnL e w' base v l := World.ownsRow.kept h hg hne
theorem OwnL.below (h : OwnL e w base v l) (hb : Below w.heap.size w w') : OwnL e w' base v l := by
  refine World.ownsRow.kept (row := none) h ⟨hb.os, hb.tape, hb.output, hb.size, fun b hlt _ => hb.block b hlt⟩ ?_
  rcases hv : v.ownBlock with _ | b
  · exact .inl rfl
  · exact .inr (by simp)
theorem OwnL.read (h : OwnL e w base v l) : RdL w w.heap.size v l := by
  have hlt := h.lt
  rcases h.2 with ⟨rfl, hn⟩ | ⟨g, c, cur, rfl, _, _, h3, h4, _⟩
  · have := List.eq_nil_of_length_eq_zero hn
    subst this
    exact RdL.nil _ _
  · refine ⟨some ⟨g, 0, none⟩, c, rfl, h3, h4, fun i x hx => ⟨_, rfl, (hlt g rfl).2, ?_⟩⟩
    have key : ∀ k u, k < 3 → x.cells[k]? = some u → w.cell? ((⟨g, 0, none⟩ : Addr).add (i * 3 + k)) = some u := fun k u hk hu =>
      World.ownsRow.cells h (g := g) rfl (i * 3 + k) u (by rw [vlCells_get l i k x hx hk]; exact hu)
    exact At3.mk' (key 0 _ (by decide) rfl) (key 1 _ (by decide) rfl) (key 2 _ (by decide) rfl)
/-- append(s, x...) of values onto a row of the call's own. -/
theorem wpl_appL {P : Program} {ops : Array Oper} {rest : List Oper} {o : Oper} {a : Act} {Q : Exit → Act → World → Prop} (hgd : o.guard = none) (s x : Operand) (t : TypeId)
    (ho : o.op = .call { callee := .builtin .append, args := #[s, x], argTypes := #[t, t] })
    (base : Nat) (e : TypeId) (ht : P.underlying t = some (.slice e)) (hinfo : (P.info? e).map (fun i => (i.zero, i.size, i.bytes)) = some (some vl0.val, 3, 32))
    (v : Value) (l : List Vl) (hs : a.eval s = v) (hown : OwnL e w base v l) (B : Nat) (vx : Value) (m : List Vl) (hx : a.eval x = vx) (hr : RdL w B vx m)
    (hlen : l.length + m.length ≤ 1000000) (hbase : base ≤ w.heap.size)
    (h : ∀ v' w', OwnL e w' base v' (l ++ m) → Below base w w' → w.grownBy w' v.ownBlock → wpList P ops Q rest (a.put o.dst v') w') : wpList P ops Q (o :: rest) a w := by
  obtain ⟨i, hi, hz, hsz, hby⟩ := info_parts hinfo
  have fin : ∀ v' w', w'.ownsRow base e 3 v' (l.length + m.length) (vlCells l ++ vlCells m) → w.grownBy w' v.ownBlock → wpList P ops Q rest (a.put o.dst v') w' := fun v' w' ho' hg => by
    refine h v' w' ?_ ((Below.refl _ _).grown hg hbase (fun b hb => (OwnL.lt hown b hb).1)) hg
    unfold OwnL
    rw [List.length_append, vlCells_app]; exact ho'
  obtain ⟨A, c, rfl, hc, hm, hcell⟩ := id hr
  rcases A with _ | ad
  · have hm' : m = [] := by
      cases m with
      | nil => rfl
      | cons y m => obtain ⟨ad, h1, _⟩ := hcell 0 y rfl; cases h1
    subst hm'
    refine wpList_plain hgd fun K hK => ?_
    have hrun : (Builtin.append_ #[t, t] o.type #[v, .slice none 0 c]).run P w = .ok v w := by
      rcases hown.2 with ⟨rfl, _⟩ | ⟨g, cap, cur, rfl, _, _, hnc, _⟩
      · simp [Builtin.append_, run_underlying ht, sizeOf, typeInfo, hi, Builtin.lenOf, Builtin.firstCells]
      · simp [Builtin.append_, run_underlying ht, sizeOf, typeInfo, hi, Builtin.lenOf, Builtin.firstCells, hnc, storeCells]
    unfold Oper.wp
    simp [execOp, ho, resolve, invoke, builtin, hs, hx, hrun, Result.andThen]
    refine hK _ _ (fin v w ?_ (World.grownBy.refl w _))
    have := hown
    unfold OwnL at this
    simpa [vlCells] using this
  · refine wpList_append_own w hgd s x t ho base e i vl0.val 3 32 ht hi hz hsz hby rfl (by decide) v l.length (vlCells l) hs hown ad m.length c (vlCells m) hx (vlCells_len m) hr.cells (vlCells_one m) (by unfold maxLen; omega) (by omega) hbase ?_
    intro v' w' ho' hg _
    exact fin v' w' ho' hg
/-- A row that was just laid out. -/
theorem RdL.lit (w : World) (l : List Vl) (m : Nat) (e : TypeId) (hm : l.length ≤ m) (hm2 : m ≤ maxLen) : RdL (w.alloc (.cells (vlCells l).toArray e)) (w.heap.size + 1) (.slice (some ⟨w.heap.size, 0, none⟩) l.length m) l := by
  refine ⟨_, m, rfl, hm, hm2, fun i x hx => ⟨_, rfl, Nat.lt_succ_self _, ?_⟩⟩
  have key : ∀ k u, k < 3 → x.cells[k]? = some u → (w.alloc (.cells (vlCells l).toArray e)).cell? ((⟨w.heap.size, 0, none⟩ : Addr).add (i * 3 + k)) = some u := fun k u hk hu => by
    have e1 : ((⟨w.heap.size, 0, none⟩ : Addr).add (i * 3 + k)) = ⟨w.heap.size, i * 3 + k, none⟩ := by
      unfold Addr.add
      by_cases h0 : i * 3 + k = 0
      · rw [h0]; rfl
      · rw [if_neg h0]; simp
    rw [e1, World.cell?_alloc_new]
    have := vlCells_get l i k x hx hk
    simp only [List.getElem?_toArray]
    rw [this, hu]
  exact At3.mk' (key 0 _ (by decide) rfl) (key 1 _ (by decide) rfl) (key 2 _ (by decide) rfl)
/-- It returns values of its own; what was there is as it was. -/
def RetVl (e : TypeId) (l : List Vl) (w : World) : Ending → World → Prop := fun en w' => ∃ v, en = .returned v ∧ OwnL e w' w.heap.size v l ∧ Below w.heap.size w w'
theorem RetVl.mk {y : Value} (hx : y = v) (ho : OwnL e w' w.heap.size v l) (hb : Below w.heap.size w w') : RetVl e l w (.returned y) w' := ⟨v, by rw [hx], ho, hb⟩
/-- It returns values of its own and a code; what was there is as it was. -/
def RetVlE (e : TypeId) (l : List Vl) (c : Nat) (w : World) : Ending → World → Prop := fun en w' => ∃ v, en = .returned (.tuple #[v, .int .i64 (c : Int)]) ∧ OwnL e w' w.heap.size v l ∧ Below w.heap.size w w'
theorem RetVlE.mk {k : Nat} {y : Value} (hx : y = .tuple #[v, .int .i64 (k : Int)]) (ho : OwnL e w' w.heap.size v l) (hb : Below w.heap.size w w') : RetVlE e l k w (.returned y) w' := ⟨v, by rw [hx], ho, hb⟩
/-- It returns values of its own and whether there are any; what was there is as it was. -/
def RetVlB (e : TypeId) (l : List Vl) (c : Bool) (w : World) : Ending → World → Prop := fun en w' => ∃ v, en = .returned (.tuple #[v, .bool c]) ∧ OwnL e w' w.heap.size v l ∧ Below w.heap.size w w'
theorem RetVlB.mk {k : Bool} {y : Value} (hx : y = .tuple #[v, .bool k]) (ho : OwnL e w' w.heap.size v l) (hb : Below w.heap.size w w') : RetVlB e l k w (.returned y) w' := ⟨v, by rw [hx], ho, hb⟩
end
end Go.VS
namespace Go.CK
open Go.RowKit Go.VB Go.VS Go.VL
/-- Check's code for a value of a column. -/
def chkV (typ : Int) (nu : Bool) (x : Vl) : Nat := chk typ nu x.nu x.n x.s
/-- A value that keep's value makes is valid for its column. -/
theorem chkV_of {ty : Int} {nu nul : Bool} {n : Int} {s : ByteArray} (h : chk ty true nul n s = 0) (hn : nul = true → nu = true) : chkV ty nu ⟨nul, n, s⟩ = 0 := by
  show chk ty nu nul n s = 0
  cases nu with
  | true => exact h
  | false =>
    cases nul with
    | true => exact absurd (hn rfl) (by decide)
    | false => unfold chk at h ⊢; exact h
end Go.CK
namespace Go.Proofs.Ytjbkeipagdmlpaa
open Go.RowKit Go.VB Go.VS Go.ChangeShapes Go.WideShapes Go.ChangeAt Go.Deep
theorem Try.infVal : (Try.prog.info? 32).map (fun i => (i.zero, i.size, i.bytes)) = some (some vl0.val, 3, 32) := by kernel_rfl
theorem Try.cellsV3 : Try.prog.cellsOf 32 = 3 := by kernel_rfl
theorem Try.cellsVB : Try.prog.cellsOf 4 = 1 := by kernel_rfl
theorem Try.cellsVI : Try.prog.cellsOf 2 = 1 := by kernel_rfl
theorem Try.cellsVS : Try.prog.cellsOf 9 = 1 := by kernel_rfl
section
variable {H : Type} {enc : TypeId × Value → H}
set_option maxRecDepth 100000 in
set_option linter.constructorNameAsVariable false in
/-- A slice of values that comes in. -/
theorem open_vls {r : Reach} {b0 : Nat} {w : World} {v : Value} {d : DataW H} {ps : List MemPlace} {held : Bool} (hval : Value.okWide Try.prog w r b0 36 v)
    (hd : DataW.Trod enc Try.prog w 0 (fun _ => true) held 36 v d ps) {ts : List TypeId} {ds : List (DataW H)} (hsz : (DataW.weightsEach Try.prog ts ds).all (· ≤ reachBytes) = true) {j : Nat} (hj : ts[j]? = some 36) (hdj : ds[j]? = some d) :
    ∃ l : List Vl, RdL w w.heap.size v l ∧ l.length * 32 ≤ 140737488351232 ∧ ∀ x ∈ l, (Lit.int .i64 x.n).wf = true ∧ x.s.size ≤ maxLen := by
  obtain ⟨A, n, c, rfl⟩ := okWide_slice Try.underlying36 hval
  obtain ⟨fuel, hf⟩ := hd
  rcases open_slice Try.underlying36 hf with ⟨hcs, _⟩ | ⟨a, len, cap, m, n', D, Pl, hcs, _, hl, hm, hmm, hdx, hx⟩
  · simp only [Value.cells, List.cons.injEq, Value.slice.injEq, and_true] at hcs
    obtain ⟨rfl, rfl, rfl⟩ := hcs
    exact ⟨[], RdL.nil _ _, by simp, by simp⟩
  · simp only [Value.cells, List.cons.injEq, Value.slice.injEq, and_true] at hcs
    obtain ⟨rfl, rfl, rfl⟩ := hcs
    simp only [if_true] at hmm
    subst hmm
    have hC : ∀ i, i < n → ∃ x : Vl, At3 w a i x ∧ (Lit.int .i64 x.n).wf = true ∧ x.s.size ≤ maxLen := fun i hi => by
      obtain ⟨cs', h1, h2⟩ := hx i (by omega)
      rw [Try.cellsV3] at h1
      obtain ⟨_, hlen4, hc⟩ := World.cells?_some h1
      match cs', hlen4 with
      | [d0, d1, d2], _ =>
      obtain ⟨xs, n2, _, _, _, hlen5, hfs5⟩ := DataW.trod_struct Try.underlying32 h2
      match xs, hlen5 with
      | [z0, z1, z2], _ =>
      obtain ⟨nu, e0, _⟩ := DataW.trod_bool Try.underlying4 (hfs5 0 _ rfl)
      obtain ⟨nn, e1, _, w1⟩ := DataW.trod_int Try.underlying2 (hfs5 1 _ rfl)
      obtain ⟨s, e2, _, w2⟩ := DataW.trod_string Try.underlying9 (hfs5 2 _ rfl)
      simp [Try.cellsVI, Try.cellsVB, Try.cellsVS] at e0 e1 e2
      subst e0 e1 e2
      refine ⟨⟨nu, nn, s⟩, At3.mk' ?_ ?_ ?_, w1, w2⟩
      · have := hc 0 (by omega); rw [Go.Deep.add_add] at this; exact this
      · have := hc 1 (by omega); rw [Go.Deep.add_add] at this; exact this
      · have := hc 2 (by omega); rw [Go.Deep.add_add] at this; exact this
    haveI : Inhabited Vl := ⟨vl0⟩
    obtain ⟨V, hV⟩ := choose_lt (α := Vl) (p := fun i x => At3 w a i x ∧ (Lit.int .i64 x.n).wf = true ∧ x.s.size ≤ maxLen) hC
    refine ⟨(List.range n).map V, ⟨some a, _, by simp, by simpa using hl, hm, fun i x hi => ?_⟩, ?_, ?_⟩
    · have hil : i < n := by
        have := (List.getElem?_eq_some_iff.1 hi).1
        simpa using this
      rw [List.getElem?_map, List.getElem?_range hil] at hi
      simp only [Option.map_some, Option.some.injEq] at hi
      subst hi
      have h4 := (hV i hil).1
      refine ⟨a, rfl, ?_, h4⟩
      have := World.block_lt_of_cell? w _ h4.c0
      rw [Go.VB.block_add] at this; exact this
    · obtain ⟨rfl, _⟩ : d = _ ∧ ps = _ := by simpa using hdx
      have h := sized_slice hsz hj hdj Try.underlying36
      rw [List.length_map, List.length_range]
      rw [show Try.prog.bytesOf 32 = 32 from by kernel_rfl] at h
      refine Nat.le_trans (Nat.mul_le_mul_right _ ?_) (Nat.le_trans h (show reachBytes ≤ 140737488351232 by decide))
      simp
    · intro x hx'
      simp only [List.mem_map, List.mem_range] at hx'
      obtain ⟨i, hi, rfl⟩ := hx'
      exact (hV i hi).2
end
end Go.Proofs.Ytjbkeipagdmlpaa
