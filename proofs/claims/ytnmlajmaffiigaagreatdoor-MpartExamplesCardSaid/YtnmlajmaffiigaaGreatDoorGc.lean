/- A region that leaves its order open, none of whose operations changes what was there: whichever order is taken, each operation yields a value that meets its own condition. -/
import Derived.Test.YtnmlajmaffiigaaGreatDoorGa
import Derived.RegionTactic
import Derived.StillTail
namespace Go.Confl
open Go.RowKit

/-- What is known of a value in a world; it stays true while only new blocks come. -/
abbrev Post := Value → World → Prop
def Stable (p : Post) : Prop := ∀ v w w', p v w → Below w.heap.size w w' → p v w'
/-- It is just this value. -/
def Is (x : Value) : Post := fun v _ => v = x
theorem Is.stable (x : Value) : Stable (Is x) := fun _ _ _ h _ => h

def writerOf (ds : List (Option Tmp)) (t : Nat) : Option Nat := ds.findIdx? fun d => d == some t
def edge (o : Oper) (j : Nat) : Bool := o.after.any fun e => e.on == j && Region.binds .any e
def tmpsOf (o : Oper) : List Nat := o.op.operands.toList.filterMap fun | .tmp t => some t | _ => none

/-- The region's shape: every edge leads back, every operation has a slot of its own, what is read was written before or is written after by an edge. -/
def okAt (l : List Oper) (n : Nat) (i : Nat) (o : Oper) : Bool :=
  o.after.all (fun e => !Region.binds .any e || decide (e.on < i)) &&
  (match o.dst with | some d => decide (d < n) && writerOf (l.map (·.dst)) d == some i | none => false) &&
  (tmpsOf o).all (fun t => match writerOf (l.map (·.dst)) t with
    | none => true
    | some j => j == i || (decide (j < i) && edge o j) || (decide (i < j) && ((l[j]?).map (edge · i)).getD false)) &&
  (match o.guard with | none => true | some (j, _) => decide (j < i) && edge o j)
def okFrom (l : List Oper) (n : Nat) : Nat → List Oper → Bool
  | _, [] => true
  | i, o :: r => okAt l n i o && okFrom l n (i + 1) r

def readFacts (ds : List (Option Tmp)) (posts : List Post) (a0 a : Act) (w : World) : List Nat → Prop
  | [] => True
  | t :: ts => (match (writerOf ds t).bind (posts[·]?) with
      | some p => p (a.tmps.getD t undef) w
      | none => a.tmps.getD t undef = a0.tmps.getD t undef) ∧ readFacts ds posts a0 a w ts

/-- The guard, decided by what is known of the value that it looks at. -/
def wantedBy (posts : List Post) (o : Oper) : Prop := match o.guard with
  | none => True
  | some (j, want) => ∃ p, posts[j]? = some p ∧ ∀ v w, p v w → v = .bool want
def unwantedBy (posts : List Post) (o : Oper) : Prop := match o.guard with
  | none => False
  | some (j, want) => ∃ p, posts[j]? = some p ∧ ∀ v w, p v w → v = .bool !want

def putsFrom (us : Nat → Value) : Nat → List (Option Tmp) → Act → Act
  | _, [], a => a
  | k, d :: r, a => putsFrom us (k + 1) r (a.put d (us k))
def allPosts (us : Nat → Value) (w : World) : Nat → List Post → Prop
  | _, [] => True
  | k, p :: ps => p (us k) w ∧ allPosts us w (k + 1) ps

section
variable (P : Program) (Q : Exit → Act → World → Prop) (W : World) (a0 : Act) (ds : List (Option Tmp))
/-- One operation, in whatever world and frame it finds when its turn comes. -/
def opOk (posts : List Post) (o : Oper) (p : Post) : Prop :=
  ∀ (a : Act) (w : World), readFacts ds posts a0 a w (tmpsOf o) → Below W.heap.size W w →
    ∀ K : Act → World → Prop, (∀ v w', p v w' → Below w.heap.size w w' → K (a.put o.dst v) w') → o.wp P a w K Q
def Chain : List Oper → List Post → Prop
  | [], posts => ∀ (us : Nat → Value) (w : World), allPosts us w 0 posts → Below W.heap.size W w → Q .normal (putsFrom us 0 ds a0) w
  | o :: r, posts => ∃ p, Stable p ∧ ((wantedBy posts o ∧ opOk P Q W a0 ds posts o p) ∨ (unwantedBy posts o ∧ ∀ w, p undef w)) ∧ Chain r (posts ++ [p])
end

/-! ### the proof -/
section
variable {P : Program} {Q : Exit → Act → World → Prop} {W : World} {a0 : Act} {l : List Oper} {ds : List (Option Tmp)}

def good (P : Program) (Q : Exit → Act → World → Prop) (W : World) (a0 : Act) (ds : List (Option Tmp)) (posts : List Post) (i : Nat) (o : Oper) : Prop :=
  ∃ p, posts[i]? = some p ∧ Stable p ∧ ((wantedBy (posts.take i) o ∧ opOk P Q W a0 ds (posts.take i) o p) ∨ (unwantedBy (posts.take i) o ∧ ∀ w, p undef w))

theorem chain_open : ∀ (r : List Oper) (posts : List Post), Chain P Q W a0 ds r posts →
    ∃ all : List Post, all.length = posts.length + r.length ∧ all.take posts.length = posts ∧
      (∀ (i : Nat) (o : Oper), r[i]? = some o → good P Q W a0 ds all (posts.length + i) o) ∧
      (∀ (us : Nat → Value) (w : World), allPosts us w 0 all → Below W.heap.size W w → Q .normal (putsFrom us 0 ds a0) w) := by
  intro r
  induction r with
  | nil => intro posts h; exact ⟨posts, by simp, by simp, fun i o hi => by simp at hi, h⟩
  | cons o r ih =>
    intro posts h
    obtain ⟨p, hs, hop, hr⟩ := h
    obtain ⟨all, hl, ht, hg, hf⟩ := ih _ hr
    have hlp : (posts ++ [p]).length = posts.length + 1 := by simp
    rw [hlp] at hl ht hg
    have htake : all.take posts.length = posts := by
      have := congrArg (List.take posts.length) ht
      rw [List.take_take, List.take_left] at this
      rwa [Nat.min_eq_left (by omega)] at this
    have hp : all[posts.length]? = some p := by
      have h1 : (all.take (posts.length + 1))[posts.length]? = some p := by rw [ht]; simp
      rw [List.getElem?_take, if_pos (by omega)] at h1
      exact h1
    refine ⟨all, by simp at hl ⊢; omega, htake, ?_, hf⟩
    intro i o' hi
    cases i with
    | zero =>
      simp at hi; subst hi
      refine ⟨p, by simpa using hp, hs, ?_⟩
      rw [Nat.add_zero, htake]; exact hop
    | succ i =>
      have := hg i o' (by simpa using hi)
      rwa [show posts.length + 1 + i = posts.length + (i + 1) from by omega] at this

theorem okFrom_at {n : Nat} : ∀ (r : List Oper) (k : Nat), okFrom l n k r = true → ∀ (i : Nat) (o : Oper), r[i]? = some o → okAt l n (k + i) o = true
  | [], _, _, i, o, h => by simp at h
  | x :: r, k, hk, i, o, h => by
    simp only [okFrom, Bool.and_eq_true] at hk
    cases i with
    | zero => simp at h; subst h; exact hk.1
    | succ i =>
      have := okFrom_at r (k + 1) hk.2 i o (by simpa using h)
      rwa [show k + 1 + i = k + (i + 1) from by omega] at this

theorem put_size (a : Act) (d : Option Tmp) (v : Value) : (a.put d v).tmps.size = a.tmps.size := by cases d <;> simp [Act.put]
theorem put_defers (a : Act) (d : Option Tmp) (v : Value) : (a.put d v).defers = a.defers := by cases d <;> rfl
theorem put_same (a : Act) (d : Tmp) (v : Value) (h : d < a.tmps.size) : (a.put (some d) v).tmps.getD d undef = v := by
  simp [Act.put, h]
theorem put_other (a : Act) (d t : Tmp) (v : Value) (h : d ≠ t) : (a.put (some d) v).tmps.getD t undef = a.tmps.getD t undef := by
  simp [Act.put, h]

theorem puts_size (us : Nat → Value) : ∀ (r : List (Option Tmp)) (k : Nat) (a : Act), (putsFrom us k r a).tmps.size = a.tmps.size ∧ (putsFrom us k r a).defers = a.defers
  | [], _, _ => ⟨rfl, rfl⟩
  | o :: r, k, a => by
    have := puts_size us r (k + 1) (a.put o (us k))
    exact ⟨this.1.trans (put_size ..), this.2.trans (put_defers ..)⟩
theorem puts_far (us : Nat → Value) : ∀ (r : List (Option Tmp)) (k : Nat) (a : Act) (t : Nat), (∀ o ∈ r, o ≠ some t) → (putsFrom us k r a).tmps.getD t undef = a.tmps.getD t undef
  | [], _, _, _, _ => rfl
  | o :: r, k, a, t, h => by
    have e := puts_far us r (k + 1) (a.put o (us k)) t (fun x hx => h x (List.mem_cons_of_mem _ hx))
    rw [show putsFrom us k (o :: r) a = putsFrom us (k + 1) r (a.put o (us k)) from rfl, e]
    have h0 := h o (List.mem_cons_self ..)
    cases o with
    | none => rfl
    | some d => exact put_other _ _ _ _ (fun hh => h0 (by rw [hh]))
theorem puts_at (us : Nat → Value) : ∀ (r : List (Option Tmp)) (k : Nat) (a : Act) (t j : Nat), r[j]? = some (some t) → (∀ (i : Nat), r[i]? = some (some t) → i = j) → t < a.tmps.size →
    (putsFrom us k r a).tmps.getD t undef = us (k + j)
  | [], _, _, _, j, h, _, _ => by simp at h
  | x :: r, k, a, t, j, h, hu, ht => by
    rw [show putsFrom us k (x :: r) a = putsFrom us (k + 1) r (a.put x (us k)) from rfl]
    cases j with
    | zero =>
      simp at h; subst h
      rw [puts_far us r (k + 1) _ t (fun y hy hyt => by
        obtain ⟨i, hi⟩ := List.mem_iff_getElem?.1 hy
        subst hyt
        have := hu (i + 1) (by simpa using hi)
        omega)]
      exact put_same _ _ _ ht
    | succ j =>
      have := puts_at us r (k + 1) (a.put x (us k)) t j (by simpa using h) (fun i hi => by
        have := hu (i + 1) (by simpa using hi)
        omega) (by rw [put_size]; exact ht)
      rw [this]; congr 1; omega

theorem writer_none {t : Nat} (h : writerOf (l.map (·.dst)) t = none) : ∀ (j : Nat) (o : Oper), l[j]? = some o → o.dst ≠ some t := by
  intro j o hj hd
  unfold writerOf at h
  rw [List.findIdx?_eq_none_iff] at h
  have := h o.dst (List.mem_map.2 ⟨o, List.mem_of_getElem? hj, rfl⟩)
  simp [hd] at this
theorem writer_some {t j : Nat} (h : writerOf (l.map (·.dst)) t = some j) : ∃ o, l[j]? = some o ∧ o.dst = some t := by
  unfold writerOf at h
  rw [List.findIdx?_eq_some_iff_getElem] at h
  obtain ⟨hlt, hp, _⟩ := h
  rw [List.length_map] at hlt
  exact ⟨l[j], List.getElem?_eq_getElem hlt, by simpa using hp⟩

structure Inv (P : Program) (W : World) (a0 : Act) (l : List Oper) (all : List Post) (listed : Array Bool) (a : Act) (w : World) : Prop where
  size : listed.size = l.length
  tsize : a.tmps.size = a0.tmps.size
  defers : a.defers = a0.defers
  below : Below W.heap.size W w
  closed : ∀ (i : Nat) (o : Oper), l[i]? = some o → listed.getD i false = true → ∀ j, edge o j = true → listed.getD j false = true
  kept : ∀ t, (∀ (j : Nat) (o : Oper), l[j]? = some o → o.dst = some t → listed.getD j false = false) → a.tmps.getD t undef = a0.tmps.getD t undef
  done : ∀ (j : Nat) (o : Oper) (p : Post) (t : Nat), l[j]? = some o → all[j]? = some p → listed.getD j false = true → o.dst = some t → p (a.tmps.getD t undef) w

theorem act_eq {a b : Act} (h1 : a.tmps.size = b.tmps.size) (h2 : a.defers = b.defers) (h : ∀ t, a.tmps.getD t undef = b.tmps.getD t undef) : a = b := by
  obtain ⟨ta, da⟩ := a
  obtain ⟨tb, db⟩ := b
  simp only at h1 h2 h
  subst h2
  congr 1
  apply Array.ext h1
  intro i hi hi'
  have := h i
  rw [Array.getD_eq_getD_getElem?, Array.getD_eq_getD_getElem?, Array.getElem?_eq_getElem hi, Array.getElem?_eq_getElem hi'] at this
  simpa using this

theorem getD_set {b : Array Bool} {i j : Nat} (hi : i < b.size) : (b.setIfInBounds i true).getD j false = if i = j then true else b.getD j false := by
  simp only [Array.getD_eq_getD_getElem?, Array.getElem?_setIfInBounds]
  by_cases h : i = j
  · subst h; simp [hi]
  · simp [h]

theorem allPosts_mk (us : Nat → Value) (w : World) : ∀ (ps : List Post) (k : Nat), (∀ (i : Nat) (p : Post), ps[i]? = some p → p (us (k + i)) w) → allPosts us w k ps
  | [], _, _ => trivial
  | p :: ps, k, h => ⟨h 0 p rfl, allPosts_mk us w ps (k + 1) fun i q hi => by
      have := h (i + 1) q (by simpa using hi)
      rwa [show k + (i + 1) = k + 1 + i from by omega] at this⟩

theorem facts_mk {posts : List Post} {a : Act} {w : World} : ∀ (ts : List Nat), (∀ t ∈ ts, match (writerOf ds t).bind (posts[·]?) with
      | some p => p (a.tmps.getD t undef) w
      | none => a.tmps.getD t undef = a0.tmps.getD t undef) → readFacts ds posts a0 a w ts
  | [], _ => trivial
  | t :: ts, h => ⟨h t (List.mem_cons_self ..), facts_mk ts fun t ht => h t (List.mem_cons_of_mem _ ht)⟩

theorem main_any {all : List Post} (hds : l.map (·.dst) = ds) (hall : all.length = l.length) (hok : ∀ (i : Nat) (o : Oper), l[i]? = some o → okAt l a0.tmps.size i o = true) (hgood : ∀ (i : Nat) (o : Oper), l[i]? = some o → good P Q W a0 ds all i o)
    (hfin : ∀ (us : Nat → Value) (w : World), allPosts us w 0 all → Below W.heap.size W w → Q .normal (putsFrom us 0 ds a0) w) :
    ∀ (fuel : Nat) (listed : Array Bool) (a : Act) (w : World), Inv P W a0 l all listed a w → listed.toList.count false ≤ fuel → wpAny P .any l.toArray Q fuel listed a w := by
  subst hds
  have hpart : ∀ (i : Nat) (o : Oper), l[i]? = some o → (∀ j, edge o j = true → j < i) ∧ (∃ d, o.dst = some d ∧ d < a0.tmps.size ∧ writerOf (l.map (·.dst)) d = some i) ∧
      (∀ t ∈ tmpsOf o, ∀ j, writerOf (l.map (·.dst)) t = some j → j = i ∨ (j < i ∧ edge o j = true) ∨ (i < j ∧ ∃ oj, l[j]? = some oj ∧ edge oj i = true)) ∧ (∀ j want, o.guard = some (j, want) → j < i ∧ edge o j = true) := by
    intro i o hi
    have h := hok i o hi
    simp only [okAt, Bool.and_eq_true] at h
    obtain ⟨⟨⟨h1, h2⟩, h3⟩, h4⟩ := h
    refine ⟨?_, ?_, ?_, ?_⟩
    · intro j hj
      simp only [edge, Array.any_eq_true'] at hj
      obtain ⟨e, he, hee⟩ := hj
      simp only [Bool.and_eq_true, beq_iff_eq] at hee
      have := (Array.all_eq_true'.1 h1) e he
      simp only [hee.2, Bool.not_true, Bool.false_or, decide_eq_true_eq] at this
      omega
    · cases hd : o.dst with
      | none => rw [hd] at h2; simp at h2
      | some d =>
        rw [hd] at h2
        simp only [Bool.and_eq_true, decide_eq_true_eq, beq_iff_eq] at h2
        exact ⟨d, rfl, h2.1, h2.2⟩
    · intro t ht j hj
      have := List.all_eq_true.1 h3 t ht
      simp only [hj, Bool.or_eq_true, beq_iff_eq, Bool.and_eq_true, decide_eq_true_eq] at this
      rcases this with (h | h) | ⟨h, h'⟩
      · exact .inl h
      · exact .inr (.inl h)
      · cases ho : l[j]? with
        | none => rw [ho] at h'; simp at h'
        | some oj => rw [ho] at h'; exact .inr (.inr ⟨h, oj, rfl, by simpa using h'⟩)
    · intro j want hg
      rw [hg] at h4
      simpa using h4
  have huniq : ∀ (i j : Nat) (o o' : Oper) (t : Nat), l[i]? = some o → l[j]? = some o' → o.dst = some t → o'.dst = some t → i = j := by
    intro i j o o' t hi hj hd hd'
    obtain ⟨d, e1, _, e2⟩ := (hpart i o hi).2.1
    obtain ⟨d', e1', _, e2'⟩ := (hpart j o' hj).2.1
    rw [hd] at e1; rw [hd'] at e1'
    cases e1; cases e1'
    rw [e2] at e2'; exact Option.some.inj e2'
  -- everything is listed: the end
  have hend : ∀ (listed : Array Bool) (a : Act) (w : World), Inv P W a0 l all listed a w → (∀ i, i < l.length → listed.getD i false = true) → Q .normal a w := by
    intro listed a w inv hfull
    have hus : a = putsFrom (fun j => match l[j]? with | some o => (match o.dst with | some t => a.tmps.getD t undef | none => undef) | none => undef) 0 (l.map (·.dst)) a0 := by
      have hps := puts_size (fun j => match l[j]? with | some o => (match o.dst with | some t => a.tmps.getD t undef | none => undef) | none => undef) (l.map (·.dst)) 0 a0
      refine act_eq (inv.tsize.trans hps.1.symm) (inv.defers.trans hps.2.symm) fun t => ?_
      cases hw : writerOf (l.map (·.dst)) t with
      | none =>
        rw [puts_far _ (l.map (·.dst)) 0 a0 t (fun o ho hd => by
          obtain ⟨x, hx, rfl⟩ := List.mem_map.1 ho
          obtain ⟨j, hj⟩ := List.mem_iff_getElem?.1 hx
          exact writer_none hw j x hj hd)]
        exact inv.kept t fun j o hj hd => absurd hd (writer_none hw j o hj)
      | some j =>
        obtain ⟨o, hj, hd⟩ := writer_some hw
        obtain ⟨d, e1, e2, _⟩ := (hpart j o hj).2.1
        rw [hd] at e1; cases e1
        rw [puts_at _ (l.map (·.dst)) 0 a0 t j (by rw [List.getElem?_map, hj]; simp [hd]) (fun i hi => by
          rw [List.getElem?_map] at hi
          obtain ⟨x, hx, hxd⟩ := Option.map_eq_some_iff.1 hi
          exact huniq i j x o t hx hj hxd hd) e2, Nat.zero_add]
        simp only [hj, hd]
    rw [hus]
    refine hfin _ w (allPosts_mk _ w all 0 fun i p hp => ?_) inv.below
    have hi : i < l.length := by
      have := (List.getElem?_eq_some_iff.1 hp).1
      omega
    have hl := List.getElem?_eq_getElem hi
    obtain ⟨d, e1, _, _⟩ := (hpart i _ hl).2.1
    rw [Nat.zero_add]
    simp only [hl, e1]
    exact inv.done i _ p d hl hp (hfull i hi) e1
  have hready : ∀ (listed : Array Bool) (a : Act) (w : World), Inv P W a0 l all listed a w → Region.ready .any l.toArray listed = [] → ∀ i, i < l.length → listed.getD i false = true := by
    intro listed a w inv hr i
    induction i using Nat.strongRecOn with
    | _ i ih =>
      intro hi
      cases hb : listed.getD i false with
      | true => rfl
      | false =>
        exfalso
        have hl := List.getElem?_eq_getElem hi
        have hmem : i ∈ Region.ready .any l.toArray listed := by
          simp only [Region.ready, List.mem_filter, List.mem_range, List.size_toArray, Bool.and_eq_true]
          refine ⟨hi, ?_, ?_⟩
          · have : listed.getD i true = listed.getD i false := by
              rw [Array.getD_eq_getD_getElem?, Array.getD_eq_getD_getElem?, Array.getElem?_eq_getElem (by rw [inv.size]; exact hi)]; rfl
            rw [this, hb]; rfl
          · rw [List.getElem?_toArray, hl]
            simp only [Option.map_some, Option.getD_some]
            rw [Array.all_eq_true']
            intro e he
            cases hbd : Region.binds .any e with
            | false => rfl
            | true =>
              have hedge : edge l[i] e.on = true := by
                simp only [edge, Array.any_eq_true']
                exact ⟨e, he, by simp [hbd]⟩
              have := ih e.on ((hpart i _ hl).1 e.on hedge) (by have := (hpart i _ hl).1 e.on hedge; omega)
              rw [this]; rfl
        rw [hr] at hmem
        simp at hmem
  have hstep : ∀ (listed : Array Bool) (a : Act) (w : World), Inv P W a0 l all listed a w → ∀ i ∈ Region.ready .any l.toArray listed,
      ∀ K : Act → World → Prop, (∀ a' w', Inv P W a0 l all (listed.setIfInBounds i true) a' w' → K a' w') → wpOp P l.toArray Q i K a w := by
    intro listed a w inv i hi K hK
    simp only [Region.ready, List.mem_filter, List.mem_range, List.size_toArray, Bool.and_eq_true] at hi
    obtain ⟨hlt, hnl, hdeps⟩ := hi
    have hl := List.getElem?_eq_getElem hlt
    have hunl : listed.getD i false = false := by
      have : listed.getD i true = listed.getD i false := by
        rw [Array.getD_eq_getD_getElem?, Array.getD_eq_getD_getElem?, Array.getElem?_eq_getElem (by rw [inv.size]; exact hlt)]; rfl
      rw [this] at hnl
      simpa using hnl
    rw [List.getElem?_toArray, hl] at hdeps
    simp only [Option.map_some, Option.getD_some] at hdeps
    have hdep : ∀ j, edge l[i] j = true → listed.getD j false = true := by
      intro j hj
      simp only [edge, Array.any_eq_true'] at hj
      obtain ⟨e, he, hee⟩ := hj
      simp only [Bool.and_eq_true, beq_iff_eq] at hee
      have := (Array.all_eq_true'.1 hdeps) e he
      simp only [hee.2, Bool.not_true, Bool.false_or] at this
      rw [← hee.1]; exact this
    obtain ⟨q1, ⟨d, hd, hdn, hwd⟩, q3, q4⟩ := hpart i _ hl
    obtain ⟨p, hp, hst, hop⟩ := hgood i _ hl
    have hisz : i < listed.size := by rw [inv.size]; exact hlt
    -- the invariant behind the operation
    have hnext : ∀ v w', p v w' → Below w.heap.size w w' → Inv P W a0 l all (listed.setIfInBounds i true) (a.put l[i].dst v) w' := by
      intro v w' hv hb
      refine ⟨by simpa using inv.size, (put_size ..).trans inv.tsize, (put_defers ..).trans inv.defers, inv.below.trans (hb.mono inv.below.size), ?_, ?_, ?_⟩
      · intro j o hj hlj k hk
        rw [getD_set hisz] at hlj ⊢
        by_cases e : i = k
        · rw [if_pos e]
        · rw [if_neg e]
          by_cases e' : i = j
          · subst e'
            rw [hl] at hj; cases hj
            exact hdep k hk
          · rw [if_neg e'] at hlj
            exact inv.closed j o hj hlj k hk
      · intro t ht
        rw [hd]
        have hdt : d ≠ t := by
          intro e; subst e
          have := ht i _ hl hd
          rw [getD_set hisz, if_pos rfl] at this
          cases this
        rw [put_other _ _ _ _ hdt]
        refine inv.kept t fun j o hj hjt => ?_
        have := ht j o hj hjt
        rw [getD_set hisz] at this
        by_cases e : i = j
        · rw [if_pos e] at this; cases this
        · rwa [if_neg e] at this
      · intro j o p' t hj hp' hlj hjt
        by_cases e : i = j
        · subst e
          rw [hl] at hj; cases hj
          rw [hp] at hp'; cases hp'
          rw [hd] at hjt; cases hjt
          rw [hd, put_same _ _ _ (by rw [inv.tsize]; exact hdn)]
          exact hv
        · rw [getD_set hisz, if_neg e] at hlj
          have hdt : d ≠ t := by
            intro e'; subst e'
            exact e (huniq i j _ o d hl hj hd hjt)
          rw [hd, put_other _ _ _ _ hdt]
          obtain ⟨pj, hpj, hstj, _⟩ := hgood j o hj
          rw [hp'] at hpj; cases hpj
          exact hstj _ _ _ (inv.done j o p' t hj hp' hlj hjt) hb
    have htk : ∀ (j : Nat) (q : Post), (all.take i)[j]? = some q → all[j]? = some q ∧ j < i := by
      intro j q h
      rw [List.getElem?_take] at h
      by_cases e : j < i
      · rw [if_pos e] at h; exact ⟨h, e⟩
      · rw [if_neg e] at h; cases h
    have hyield : ∀ j want, l[i].guard = some (j, want) → ∀ q : Post, (all.take i)[j]? = some q → ∀ b, (∀ v w, q v w → v = .bool b) → yielded l.toArray a.tmps j = some b := by
      intro j want hg q hq b hb
      obtain ⟨hq', hji⟩ := htk j q hq
      obtain ⟨_, hedge⟩ := q4 j want hg
      have hjl : j < l.length := by omega
      have hlj := List.getElem?_eq_getElem hjl
      obtain ⟨dj, hdj, hdjn, _⟩ := (hpart j _ hlj).2.1
      have hv := hb _ _ (inv.done j _ q dj hlj hq' (hdep j hedge) hdj)
      unfold yielded
      rw [List.getElem?_toArray, hlj]
      simp only [Option.bind_some, hdj]
      rw [Array.getElem?_eq_getElem (by rw [inv.tsize]; exact hdjn)]
      rw [Array.getD_eq_getD_getElem?, Array.getElem?_eq_getElem (by rw [inv.tsize]; exact hdjn)] at hv
      simp only [Option.getD_some] at hv
      rw [hv]
    unfold wpOp
    rw [List.getElem?_toArray, hl]
    simp only
    rcases hop with ⟨hw, ho⟩ | ⟨hu, hun⟩
    · have hwant : Region.wanted l[i] (yielded l.toArray a.tmps) = true := by
        unfold Region.wanted
        unfold wantedBy at hw
        cases hg : l[i].guard with
        | none => rfl
        | some g =>
          obtain ⟨j, want⟩ := g
          rw [hg] at hw
          obtain ⟨q, hq, hb⟩ := hw
          simp only [hyield j want hg q hq want hb, beq_self_eq_true]
      rw [if_pos hwant]
      refine .inl (ho a w ?_ inv.below K fun v w' hv hb => hK _ _ (hnext v w' hv hb))
      refine facts_mk _ fun t ht => ?_
      cases hwr : writerOf (l.map (·.dst)) t with
      | none =>
        simp only [Option.bind_none]
        exact inv.kept t fun j o hj hjt => absurd hjt (writer_none hwr j o hj)
      | some j =>
        simp only [Option.bind_some]
        obtain ⟨oj, hoj, hjt⟩ := writer_some hwr
        have hunlisted : ¬ j < i → listed.getD j false = false := by
          intro hji
          rcases q3 t ht j hwr with e | ⟨e, _⟩ | ⟨_, oj', hoj', e⟩
          · subst e; exact hunl
          · exact absurd e hji
          · rw [hoj] at hoj'; cases hoj'
            cases hb : listed.getD j false with
            | false => rfl
            | true =>
              have := inv.closed j oj hoj hb i e
              rw [hunl] at this; cases this
        by_cases hji : j < i
        · have hjl : j < l.length := by omega
          have hpj : all[j]? = some all[j] := List.getElem?_eq_getElem (by omega)
          rw [List.getElem?_take, if_pos hji, hpj]
          simp only
          have hedge : edge l[i] j = true := by
            rcases q3 t ht j hwr with e | ⟨_, e⟩ | ⟨e, _⟩
            · omega
            · exact e
            · omega
          exact inv.done j oj _ t hoj hpj (hdep j hedge) hjt
        · rw [List.getElem?_take, if_neg hji]
          simp only
          refine inv.kept t fun j' o' hj' hj't => ?_
          have := huniq j' j o' oj t hj' hoj hj't hjt
          subst this
          exact hunlisted hji
    · have hwant : Region.wanted l[i] (yielded l.toArray a.tmps) = false := by
        unfold Region.wanted
        unfold unwantedBy at hu
        cases hg : l[i].guard with
        | none => rw [hg] at hu; exact hu.elim
        | some g =>
          obtain ⟨j, want⟩ := g
          rw [hg] at hu
          obtain ⟨q, hq, hb⟩ := hu
          simp only [hyield j want hg q hq (!want) hb]
          cases want <;> rfl
      rw [if_neg (by rw [hwant]; simp)]
      exact hK _ _ (hnext undef w (hun w) (Below.refl _ _))
  intro fuel
  induction fuel with
  | zero =>
    intro listed a w inv hc
    have hfull : ∀ i, i < l.length → listed.getD i false = true := by
      intro i hi
      cases hb : listed.getD i false with
      | true => rfl
      | false =>
        exfalso
        have hi' : i < listed.size := by rw [inv.size]; exact hi
        rw [Array.getD_eq_getD_getElem?, Array.getElem?_eq_getElem hi'] at hb
        simp only [Option.getD_some] at hb
        have : false ∈ listed.toList := by
          rw [← hb]; simp
        have := List.count_pos_iff.2 this
        omega
    refine ⟨?_, hend listed a w inv hfull⟩
    cases hr : Region.ready .any l.toArray listed with
    | nil => rfl
    | cons x xs =>
      exfalso
      have hx : x ∈ Region.ready .any l.toArray listed := by rw [hr]; exact List.mem_cons_self ..
      simp only [Region.ready, List.mem_filter, List.mem_range, List.size_toArray, Bool.and_eq_true] at hx
      have h1 := hfull x hx.1
      have h2 : listed.getD x true = listed.getD x false := by
        rw [Array.getD_eq_getD_getElem?, Array.getD_eq_getD_getElem?, Array.getElem?_eq_getElem (by rw [inv.size]; exact hx.1)]; rfl
      rw [h2, h1] at hx
      simp at hx
  | succ fuel ih =>
    intro listed a w inv hc
    refine ⟨fun hr => hend listed a w inv (hready listed a w inv hr), fun i hi => ?_⟩
    refine hstep listed a w inv i hi _ fun a' w' inv' => ih _ a' w' inv' ?_
    simp only [Region.ready, List.mem_filter, List.mem_range, List.size_toArray, Bool.and_eq_true] at hi
    have hi' : i < listed.size := by rw [inv.size]; exact hi.1
    have hf : listed[i] = false := by
      have := hi.2.1
      rw [Array.getD_eq_getD_getElem?, Array.getElem?_eq_getElem hi'] at this
      simpa using this
    rw [Array.toList_setIfInBounds, List.count_set (by simpa using hi')]
    simp only [Array.getElem_toList, hf]
    have : 0 < listed.toList.count false := List.count_pos_iff.2 (by rw [← hf]; simp)
    rw [if_pos (by rfl), if_neg (by decide)]
    omega

/-- THE RULE. -/
theorem wp_region_confl {id : Nat} {w : World} (hds : l.map (·.dst) = ds) (hm : P.follows .mixedOrders = true) (hok : okFrom l a0.tmps.size 0 l = true) (h : Chain P Q w a0 ds l []) : (Code.region id l.toArray true).wp P Q a0 w := by
  obtain ⟨all, hl, _, hg, hf⟩ := chain_open l [] h
  refine wp_region_any hm ?_
  refine main_any (W := w) (all := all) hds (by simpa using hl) (fun i o hi => by simpa using okFrom_at l 0 hok i o hi) (fun i o hi => by simpa using hg i o hi) hf _ _ _ _ ?_ ?_
  · refine ⟨by simp, rfl, rfl, (Below.refl _ _).drew, ?_, fun t _ => rfl, ?_⟩
    · intro i o _ hl'
      simp at hl'
      exact absurd hl' (by rcases Nat.lt_or_ge i l.length with h | h <;> simp [h])
    · intro j o p t _ _ hl' _
      exact absurd hl' (by rcases Nat.lt_or_ge j l.length with h | h <;> simp [h])
  · simp

theorem chain_is {o : Oper} {r : List Oper} {posts : List Post} (v : Value) (hw : wantedBy posts o) (h : opOk P Q W a0 ds posts o (Is v)) (hr : Chain P Q W a0 ds r (posts ++ [Is v])) : Chain P Q W a0 ds (o :: r) posts :=
  ⟨Is v, Is.stable v, .inl ⟨hw, h⟩, hr⟩
theorem chain_skip {o : Oper} {r : List Oper} {posts : List Post} (hu : unwantedBy posts o) (hr : Chain P Q W a0 ds r (posts ++ [Is undef])) : Chain P Q W a0 ds (o :: r) posts :=
  ⟨Is undef, Is.stable undef, .inr ⟨hu, fun _ => rfl⟩, hr⟩
theorem wanted_none {o : Oper} {posts : List Post} (h : o.guard = none) : wantedBy posts o := by unfold wantedBy; rw [h]; trivial
theorem wanted_is {o : Oper} {posts : List Post} {j : Nat} {b : Bool} (h : o.guard = some (j, b)) (hp : posts[j]? = some (Is (.bool b))) : wantedBy posts o := by
  unfold wantedBy; rw [h]; exact ⟨_, hp, fun _ _ e => e⟩
theorem unwanted_is {o : Oper} {posts : List Post} {j : Nat} {b : Bool} (h : o.guard = some (j, b)) (hp : posts[j]? = some (Is (.bool !b))) : unwantedBy posts o := by
  unfold unwantedBy; rw [h]; exact ⟨_, hp, fun _ _ e => e⟩
end
end Go.Confl

namespace Go.Confl
open Go.RowKit
/-- What is asked at the head's end: the tail's walk. -/
def TailQ (P : Program) (full : Array Oper) (tl : List Oper) (Q : Exit → Act → World → Prop) : Exit → Act → World → Prop
  | .normal, a, w => wpList P full Q tl a w
  | e, a, w => Q e a w
theorem wp_tail {P : Program} {full : Array Oper} {tl : List Oper} {Q : Exit → Act → World → Prop} {o : Oper} {a : Act} {w : World} {K K' : Act → World → Prop}
    (hL : LetsOut (TailQ P full tl Q) → LetsOut Q) (h : ∀ a w, K a w → K' a w) (hh : o.wp P a w K (TailQ P full tl Q)) : o.wp P a w K' Q := by
  unfold Oper.wp at *
  generalize (execOp a.eval o).run P w = r at *
  cases r with
  | ok n w' =>
    cases n <;> simp only [Oper.upon] at hh ⊢ <;>
      first
        | exact h _ _ hh
        | exact Calls.mono hh (fun e w'' he => by cases e <;> first | exact h _ _ he | exact hL he | exact he)
        | exact Rows.mono hh (fun _ _ he => h _ _ he)
  | halt x w' => cases x <;> simp only [Oper.upon] at hh ⊢ <;> exact hh

section
variable {P : Program} {Q : Exit → Act → World → Prop} {l tl : List Oper}
/-- The head's edges lead back, and so do its guards. -/
def backB : Nat → List Oper → Bool
  | _, [] => true
  | i, o :: r => (o.after.all fun e => !Region.binds .any e || decide (e.on < i)) && (match o.guard with | none => true | some (j, _) => decide (j < i)) && backB (i + 1) r
theorem backB_at : ∀ (r : List Oper) (k : Nat), backB k r = true → ∀ (i : Nat) (o : Oper), r[i]? = some o →
    (∀ e ∈ o.after, Region.binds .any e = true → e.on < k + i) ∧ ∀ j want, o.guard = some (j, want) → j < k + i
  | [], _, _, i, o, h => by simp at h
  | x :: r, k, hk, i, o, h => by
    simp only [backB, Bool.and_eq_true] at hk
    cases i with
    | zero =>
      simp at h; subst h
      refine ⟨fun e he hb => ?_, fun j want hg => ?_⟩
      · have := (Array.all_eq_true'.1 hk.1.1) e he
        simpa [hb] using this
      · have := hk.1.2
        rw [hg] at this
        simpa using this
    | succ i =>
      have := backB_at r (k + 1) hk.2 i o (by simpa using h)
      rwa [show k + 1 + i = k + (i + 1) from by omega] at this

theorem any_of_head (hL : LetsOut (TailQ P (l ++ tl).toArray tl Q) → LetsOut Q) (hback : backB 0 l = true) (hs : Region.sinkB .any (l ++ tl).toArray l.length = true) (hc : Region.chainB .any (l ++ tl).toArray l.length = true) (htl : 0 < tl.length)
    (hseq : Region.seqB .any (l ++ tl).toArray tl.length l.length ((List.replicate l.length true ++ List.replicate tl.length false).toArray) = true) :
    ∀ (fuel : Nat) (H F : Array Bool) (a : Act) (w : World), H.size = l.length → F.size = l.length + tl.length → (∀ i, i < l.length → F.getD i false = H.getD i false) → (∀ t, l.length ≤ t → t < l.length + tl.length → F.getD t true = false) →
      (∀ j o, l[j]? = some o → H.getD j false = true → ∀ e ∈ o.after, Region.binds .any e = true → H.getD e.on false = true) →
      H.toList.count false = fuel → wpAny P .any l.toArray (TailQ P (l ++ tl).toArray tl Q) fuel H a w → wpAny P .any (l ++ tl).toArray Q (fuel + tl.length) F a w := by
  have hget : ∀ i, i < l.length → (l ++ tl).toArray[i]? = l.toArray[i]? := fun i hi => by
    rw [List.getElem?_toArray, List.getElem?_toArray, List.getElem?_append_left hi]
  have hgd : ∀ (b : Array Bool) (i : Nat), i < b.size → b.getD i true = b.getD i false := fun b i hi => by
    rw [Array.getD_eq_getD_getElem?, Array.getD_eq_getD_getElem?, Array.getElem?_eq_getElem hi]; rfl
  have hn : l.length < (l ++ tl).toArray.size := by simp; omega
  intro fuel
  induction fuel with
  | zero =>
    intro H F a w hH hF hagree htail hclosed hcount hw
    have hfull : ∀ i, i < l.length → H.getD i false = true := fun i hi => by
      cases hb : H.getD i false with
      | true => rfl
      | false =>
        exfalso
        have hi' : i < H.size := by rw [hH]; exact hi
        rw [Array.getD_eq_getD_getElem?, Array.getElem?_eq_getElem hi'] at hb
        simp only [Option.getD_some] at hb
        have : false ∈ H.toList := by rw [← hb]; simp
        have := List.count_pos_iff.2 this
        omega
    have hFe : F = (List.replicate l.length true ++ List.replicate tl.length false).toArray := by
      apply Array.ext
      · simp [hF]
      · intro i h1 h2
        have e : F[i] = F.getD i false := by rw [Array.getD_eq_getD_getElem?, Array.getElem?_eq_getElem h1]; rfl
        rw [e]
        by_cases hi : i < l.length
        · rw [hagree i hi, hfull i hi]
          simp [hi]
        · have h3 := htail i (by omega) (by omega)
          rw [hgd F i h1] at h3
          rw [h3]
          simp [List.getElem_append, hi]
    rw [Nat.zero_add]
    refine wpAny_of_seq tl l.length F a w (fun j => ?_) (by rw [hFe]; exact hseq) ?_
    · rw [List.getElem?_toArray, List.getElem?_append_right (by omega), Nat.add_sub_cancel_left]
    · exact hw.2
  | succ fuel ih =>
    intro H F a w hH hF hagree htail hclosed hcount hw
    have hun : ∃ i, i < l.length ∧ H.getD i false = false := by
      have hmem : false ∈ H.toList := List.count_pos_iff.1 (by omega)
      obtain ⟨i, hi, he⟩ := List.getElem_of_mem hmem
      refine ⟨i, by rw [← hH]; simpa using hi, ?_⟩
      rw [Array.getD_eq_getD_getElem?, Array.getElem?_eq_getElem (by simpa using hi)]
      simpa using he
    have hinv : HeadInv .any (l ++ tl).toArray l.length F := by
      refine ⟨by simp [hF], ?_, fun t h1 h2 => htail t h1 (by simpa using h2)⟩
      intro j oj hj hl e he hb
      have hjl : j < l.length := by
        rcases Nat.lt_or_ge j l.length with h | h
        · exact h
        · exfalso
          have hlt : j < l.length + tl.length := by
            have := (Array.getElem?_eq_some_iff.1 hj).1
            simpa using this
          have h3 := htail j h hlt
          rw [hgd F j (by omega)] at h3
          rw [h3] at hl; cases hl
      rw [hget j hjl, List.getElem?_toArray] at hj
      have hon := (backB_at l 0 hback j oj hj).1 e he hb
      rw [hagree j hjl] at hl
      rw [hagree e.on (by omega)]
      exact hclosed j oj hj hl e he hb
    have hready : ∀ i, i ∈ Region.ready .any (l ++ tl).toArray F → i < l.length ∧ i ∈ Region.ready .any l.toArray H := by
      intro i hi
      have hil : i < l.length := by
        rcases Nat.lt_or_ge i l.length with h | h
        · exact h
        · exfalso
          obtain ⟨k, hk, hku⟩ := hun
          exact tail_waits hs hc hn hinv _ k rfl hk (by rw [hgd F k (by omega), hagree k hk]; exact hku) i h hi
      refine ⟨hil, ?_⟩
      obtain ⟨h1, o, ho, h2⟩ := mem_ready.1 hi
      rw [hget i hil] at ho
      refine mem_ready.2 ⟨?_, o, ho, fun e he hb => ?_⟩
      · rw [hgd F i (by omega), hagree i hil] at h1
        rw [hgd H i (by omega)]; exact h1
      · have hon := (backB_at l 0 hback i o (by rw [← List.getElem?_toArray]; exact ho)).1 e he hb
        rw [← hagree e.on (by omega)]
        exact h2 e he hb
    have hready' : ∀ i, i < l.length → H.getD i false = false → (∀ j, j < i → H.getD j false = true) → i ∈ Region.ready .any (l ++ tl).toArray F := by
      intro i hi hu hmin
      refine mem_ready.2 ⟨by rw [hgd F i (by omega), hagree i hi]; exact hu, l[i], by rw [hget i hi, List.getElem?_toArray, List.getElem?_eq_getElem hi], fun e he hb => ?_⟩
      have hon := (backB_at l 0 hback i l[i] (List.getElem?_eq_getElem hi)).1 e he hb
      rw [hagree e.on (by omega)]
      exact hmin _ (by omega)
    have hne : Region.ready .any (l ++ tl).toArray F ≠ [] := by
      obtain ⟨k, hk, hku⟩ := hun
      have : ∃ i, i < l.length ∧ H.getD i false = false ∧ ∀ j, j < i → H.getD j false = true := by
        revert hk hku
        induction k using Nat.strongRecOn with
        | _ k ihk =>
          intro hk hku
          by_cases hex : ∃ j, j < k ∧ H.getD j false = false
          · obtain ⟨j, hj, hju⟩ := hex
            exact ihk j hj (by omega) hju
          · refine ⟨k, hk, hku, fun j hj => ?_⟩
            cases hb : H.getD j false with
            | true => rfl
            | false => exact absurd ⟨j, hj, hb⟩ hex
      obtain ⟨i, h1, h2, h3⟩ := this
      intro he
      have := hready' i h1 h2 h3
      rw [he] at this
      cases this
    rw [show fuel + 1 + tl.length = fuel + tl.length + 1 from by omega]
    refine ⟨fun he => absurd he hne, fun i hi => ?_⟩
    obtain ⟨hil, hiH⟩ := hready i hi
    have hop := hw.2 i hiH
    obtain ⟨hu1, o, ho, hdeps⟩ := mem_ready.1 hiH
    have hoF := hget i hil
    have hK : ∀ (a' : Act) (w' : World), wpAny P .any l.toArray (TailQ P (l ++ tl).toArray tl Q) fuel (H.setIfInBounds i true) a' w' → wpAny P .any (l ++ tl).toArray Q (fuel + tl.length) (F.setIfInBounds i true) a' w' := by
      intro a' w' h'
      refine ih _ _ a' w' (by simp [hH]) (by simp [hF]) (fun j hj => ?_) (fun t h1 h2 => ?_) ?_ ?_ h'
      · by_cases e : i = j
        · subst e
          rw [Array.getD_eq_getD_getElem?, Array.getD_eq_getD_getElem?, Array.getElem?_setIfInBounds_self_of_lt (by omega), Array.getElem?_setIfInBounds_self_of_lt (by omega)]
        · rw [getD_set_ne false e, getD_set_ne false e]; exact hagree j hj
      · rw [getD_set_ne true (by omega)]; exact htail t h1 h2
      · intro j oj hj hl e he hb
        by_cases ej : i = j
        · subst ej
          rw [List.getElem?_toArray] at ho
          rw [ho] at hj; cases hj
          exact getD_set_true (hdeps e he hb)
        · rw [getD_set_ne false ej] at hl
          exact getD_set_true (hclosed j oj hj hl e he hb)
      · have hi' : i < H.size := by rw [hH]; exact hil
        have hf : H[i] = false := by
          rw [hgd H i hi'] at hu1
          rw [Array.getD_eq_getD_getElem?, Array.getElem?_eq_getElem hi'] at hu1
          simpa using hu1
        rw [Array.toList_setIfInBounds, List.count_set (by simpa using hi')]
        simp only [Array.getElem_toList, hf]
        rw [if_pos (by rfl), if_neg (by decide)]
        omega
    unfold wpOp at hop ⊢
    rw [hoF]
    rw [ho] at hop ⊢
    simp only at hop ⊢
    have hwd : Region.wanted o (yielded (l ++ tl).toArray a.tmps) = Region.wanted o (yielded l.toArray a.tmps) := by
      unfold Region.wanted
      cases hg : o.guard with
      | none => rfl
      | some g =>
        obtain ⟨j, want⟩ := g
        have hj := (backB_at l 0 hback i o (by rw [← List.getElem?_toArray]; exact ho)).2 j want hg
        simp only [yielded, hget j (by omega)]
    rw [hwd]
    by_cases hwt : Region.wanted o (yielded l.toArray a.tmps) = true
    · rw [if_pos hwt] at hop ⊢
      rcases hop with hop | ⟨h1, h2⟩
      · exact .inl (wp_tail hL hK hop)
      · exact .inr ⟨h1, hL h2⟩
    · rw [if_neg hwt] at hop ⊢
      exact hK _ _ hop
end

end Go.Confl

namespace Go.ConflA
open Go.RowKit Go.Confl
/-- It makes a new variable. -/
def isAl (o : Oper) : Bool := match o.op with | .alloc _ => o.guard == none | _ => false
/-- The value lies in a new block behind the world w. -/
def NewAt (v : Value) (w w' : World) : Prop := v = .pointer (some ⟨w.heap.size, 0, none⟩) ∧ w.heap.size < w'.heap.size
theorem isAl_op {o : Oper} (h : isAl o = true) : (∃ t, o.op = .alloc t) ∧ o.guard = none := by
  unfold isAl at h
  split at h
  · rename_i t ht; exact ⟨⟨t, ht⟩, by simpa using h⟩
  · cases h
section
variable {P : Program} {Q : Exit → Act → World → Prop}
theorem al_wp {o : Oper} {a : Act} {w : World} {p : Value → World → Prop} (d : Nat) (hd : o.dst = some d) (hdn : d < a.tmps.size)
    (h : ∀ K : Act → World → Prop, (∀ v w', p v w' → Below w.heap.size w w' → K (a.put o.dst v) w') → o.wp P a w K Q) :
    ∀ K : Act → World → Prop, (∀ v w', p v w' → Below w.heap.size w w' → (isAl o = true → NewAt v w w') → K (a.put o.dst v) w') → o.wp P a w K Q := by
  intro K hK
  by_cases hal : isAl o = true
  · obtain ⟨⟨t, ht⟩, _⟩ := isAl_op hal
    have h1 := h (fun a' w' => ∃ v, p v w' ∧ Below w.heap.size w w' ∧ a' = a.put o.dst v) (fun v w' hv hb => ⟨v, hv, hb, rfl⟩)
    unfold Oper.wp at h1 ⊢
    have hrun : ∀ n w', (execOp a.eval o).run P w = .ok n w' → ∃ v, n = .value v ∧ NewAt v w w' := by
      intro n w' hr
      simp [execOp, ht, Instr.alloc, newVar] at hr
      cases hi : P.info? t with
      | none => simp [zeroValue, typeInfo, hi] at hr
      | some ti =>
        cases hz : ti.zero with
        | none => simp [zeroValue, typeInfo, hi, hz] at hr
        | some z =>
          simp [zeroValue, typeInfo, hi, hz, newRow] at hr
          obtain ⟨rfl, rfl⟩ := hr
          exact ⟨_, rfl, rfl, by simp⟩
    have hhalt : ∀ x w', (execOp a.eval o).run P w = .halt x w' → o.upon P a K Q (.halt x w') := by
      intro x w' hr
      rw [hr] at h1
      cases x <;> exact h1
    cases hr : (execOp a.eval o).run P w with
    | halt x w' => exact hhalt x w' hr
    | ok n w' =>
      obtain ⟨v, rfl, hn⟩ := hrun n w' hr
      rw [hr] at h1
      obtain ⟨v', hv, hb, he⟩ := h1
      have e : v = v' := by
        have h2 := put_same a d v hdn
        have h3 := put_same a d v' hdn
        rw [hd] at he
        rw [he] at h2
        exact h2.symm.trans h3
      subst e
      exact hK v w' hv hb (fun _ => hn)
  · exact h K (fun v w' hv hb => hK v w' hv hb (fun e => absurd e hal))
end
section
variable {P : Program} {Q : Exit → Act → World → Prop} {W : World} {a0 : Act} {l : List Oper} {ds : List (Option Tmp)}
structure Inv (P : Program) (W : World) (a0 : Act) (l : List Oper) (all : List Post) (listed : Array Bool) (a : Act) (w : World) : Prop where
  size : listed.size = l.length
  tsize : a.tmps.size = a0.tmps.size
  defers : a.defers = a0.defers
  below : Below W.heap.size W w
  closed : ∀ (i : Nat) (o : Oper), l[i]? = some o → listed.getD i false = true → ∀ j, edge o j = true → listed.getD j false = true
  kept : ∀ t, (∀ (j : Nat) (o : Oper), l[j]? = some o → o.dst = some t → listed.getD j false = false) → a.tmps.getD t undef = a0.tmps.getD t undef
  done : ∀ (j : Nat) (o : Oper) (p : Post) (t : Nat), l[j]? = some o → all[j]? = some p → listed.getD j false = true → o.dst = some t → p (a.tmps.getD t undef) w
  fresh : ∀ (j : Nat) (o : Oper) (t : Nat), l[j]? = some o → isAl o = true → listed.getD j false = true → o.dst = some t → ∃ g, a.tmps.getD t undef = .pointer (some ⟨g, 0, none⟩) ∧ g < w.heap.size
  dist : ∀ (i j : Nat) (oi oj : Oper) (ti tj : Nat), l[i]? = some oi → l[j]? = some oj → i ≠ j → isAl oi = true → isAl oj = true → listed.getD i false = true → listed.getD j false = true →
    oi.dst = some ti → oj.dst = some tj → a.tmps.getD ti undef ≠ a.tmps.getD tj undef

/-- The new variables are told apart. -/
def Dist (us : Nat → Value) (l : List Oper) : Prop := ∀ (i j : Nat) (oi oj : Oper), l[i]? = some oi → l[j]? = some oj → i ≠ j → isAl oi = true → isAl oj = true → us i ≠ us j

theorem main_any {all : List Post} (hds : l.map (·.dst) = ds) (hall : all.length = l.length) (hok : ∀ (i : Nat) (o : Oper), l[i]? = some o → okAt l a0.tmps.size i o = true) (hgood : ∀ (i : Nat) (o : Oper), l[i]? = some o → good P Q W a0 ds all i o)
    (hfin : ∀ (us : Nat → Value) (w : World), allPosts us w 0 all → Dist us l → Below W.heap.size W w → Q .normal (putsFrom us 0 ds a0) w) :
    ∀ (fuel : Nat) (listed : Array Bool) (a : Act) (w : World), Inv P W a0 l all listed a w → listed.toList.count false ≤ fuel → wpAny P .any l.toArray Q fuel listed a w := by
  subst hds
  have hpart : ∀ (i : Nat) (o : Oper), l[i]? = some o → (∀ j, edge o j = true → j < i) ∧ (∃ d, o.dst = some d ∧ d < a0.tmps.size ∧ writerOf (l.map (·.dst)) d = some i) ∧
      (∀ t ∈ tmpsOf o, ∀ j, writerOf (l.map (·.dst)) t = some j → j = i ∨ (j < i ∧ edge o j = true) ∨ (i < j ∧ ∃ oj, l[j]? = some oj ∧ edge oj i = true)) ∧ (∀ j want, o.guard = some (j, want) → j < i ∧ edge o j = true) := by
    intro i o hi
    have h := hok i o hi
    simp only [okAt, Bool.and_eq_true] at h
    obtain ⟨⟨⟨h1, h2⟩, h3⟩, h4⟩ := h
    refine ⟨?_, ?_, ?_, ?_⟩
    · intro j hj
      simp only [edge, Array.any_eq_true'] at hj
      obtain ⟨e, he, hee⟩ := hj
      simp only [Bool.and_eq_true, beq_iff_eq] at hee
      have := (Array.all_eq_true'.1 h1) e he
      simp only [hee.2, Bool.not_true, Bool.false_or, decide_eq_true_eq] at this
      omega
    · cases hd : o.dst with
      | none => rw [hd] at h2; simp at h2
      | some d =>
        rw [hd] at h2
        simp only [Bool.and_eq_true, decide_eq_true_eq, beq_iff_eq] at h2
        exact ⟨d, rfl, h2.1, h2.2⟩
    · intro t ht j hj
      have := List.all_eq_true.1 h3 t ht
      simp only [hj, Bool.or_eq_true, beq_iff_eq, Bool.and_eq_true, decide_eq_true_eq] at this
      rcases this with (h | h) | ⟨h, h'⟩
      · exact .inl h
      · exact .inr (.inl h)
      · cases ho : l[j]? with
        | none => rw [ho] at h'; simp at h'
        | some oj => rw [ho] at h'; exact .inr (.inr ⟨h, oj, rfl, by simpa using h'⟩)
    · intro j want hg
      rw [hg] at h4
      simpa using h4
  have huniq : ∀ (i j : Nat) (o o' : Oper) (t : Nat), l[i]? = some o → l[j]? = some o' → o.dst = some t → o'.dst = some t → i = j := by
    intro i j o o' t hi hj hd hd'
    obtain ⟨d, e1, _, e2⟩ := (hpart i o hi).2.1
    obtain ⟨d', e1', _, e2'⟩ := (hpart j o' hj).2.1
    rw [hd] at e1; rw [hd'] at e1'
    cases e1; cases e1'
    rw [e2] at e2'; exact Option.some.inj e2'
  -- everything is listed: the end
  have hend : ∀ (listed : Array Bool) (a : Act) (w : World), Inv P W a0 l all listed a w → (∀ i, i < l.length → listed.getD i false = true) → Q .normal a w := by
    intro listed a w inv hfull
    have hus : a = putsFrom (fun j => match l[j]? with | some o => (match o.dst with | some t => a.tmps.getD t undef | none => undef) | none => undef) 0 (l.map (·.dst)) a0 := by
      have hps := puts_size (fun j => match l[j]? with | some o => (match o.dst with | some t => a.tmps.getD t undef | none => undef) | none => undef) (l.map (·.dst)) 0 a0
      refine act_eq (inv.tsize.trans hps.1.symm) (inv.defers.trans hps.2.symm) fun t => ?_
      cases hw : writerOf (l.map (·.dst)) t with
      | none =>
        rw [puts_far _ (l.map (·.dst)) 0 a0 t (fun o ho hd => by
          obtain ⟨x, hx, rfl⟩ := List.mem_map.1 ho
          obtain ⟨j, hj⟩ := List.mem_iff_getElem?.1 hx
          exact writer_none hw j x hj hd)]
        exact inv.kept t fun j o hj hd => absurd hd (writer_none hw j o hj)
      | some j =>
        obtain ⟨o, hj, hd⟩ := writer_some hw
        obtain ⟨d, e1, e2, _⟩ := (hpart j o hj).2.1
        rw [hd] at e1; cases e1
        rw [puts_at _ (l.map (·.dst)) 0 a0 t j (by rw [List.getElem?_map, hj]; simp [hd]) (fun i hi => by
          rw [List.getElem?_map] at hi
          obtain ⟨x, hx, hxd⟩ := Option.map_eq_some_iff.1 hi
          exact huniq i j x o t hx hj hxd hd) e2, Nat.zero_add]
        simp only [hj, hd]
    rw [hus]
    refine hfin _ w (allPosts_mk _ w all 0 fun i p hp => ?_) (fun i j oi oj hi hj hne hai haj => ?_) inv.below
    rotate_left
    · obtain ⟨ti, e1, _, _⟩ := (hpart i oi hi).2.1
      obtain ⟨tj, e2, _, _⟩ := (hpart j oj hj).2.1
      simp only [hi, hj, e1, e2]
      exact inv.dist i j oi oj ti tj hi hj hne hai haj (hfull i (List.getElem?_eq_some_iff.1 hi).1) (hfull j (List.getElem?_eq_some_iff.1 hj).1) e1 e2
    have hi : i < l.length := by
      have := (List.getElem?_eq_some_iff.1 hp).1
      omega
    have hl := List.getElem?_eq_getElem hi
    obtain ⟨d, e1, _, _⟩ := (hpart i _ hl).2.1
    rw [Nat.zero_add]
    simp only [hl, e1]
    exact inv.done i _ p d hl hp (hfull i hi) e1
  have hready : ∀ (listed : Array Bool) (a : Act) (w : World), Inv P W a0 l all listed a w → Region.ready .any l.toArray listed = [] → ∀ i, i < l.length → listed.getD i false = true := by
    intro listed a w inv hr i
    induction i using Nat.strongRecOn with
    | _ i ih =>
      intro hi
      cases hb : listed.getD i false with
      | true => rfl
      | false =>
        exfalso
        have hl := List.getElem?_eq_getElem hi
        have hmem : i ∈ Region.ready .any l.toArray listed := by
          simp only [Region.ready, List.mem_filter, List.mem_range, List.size_toArray, Bool.and_eq_true]
          refine ⟨hi, ?_, ?_⟩
          · have : listed.getD i true = listed.getD i false := by
              rw [Array.getD_eq_getD_getElem?, Array.getD_eq_getD_getElem?, Array.getElem?_eq_getElem (by rw [inv.size]; exact hi)]; rfl
            rw [this, hb]; rfl
          · rw [List.getElem?_toArray, hl]
            simp only [Option.map_some, Option.getD_some]
            rw [Array.all_eq_true']
            intro e he
            cases hbd : Region.binds .any e with
            | false => rfl
            | true =>
              have hedge : edge l[i] e.on = true := by
                simp only [edge, Array.any_eq_true']
                exact ⟨e, he, by simp [hbd]⟩
              have := ih e.on ((hpart i _ hl).1 e.on hedge) (by have := (hpart i _ hl).1 e.on hedge; omega)
              rw [this]; rfl
        rw [hr] at hmem
        simp at hmem
  have hstep : ∀ (listed : Array Bool) (a : Act) (w : World), Inv P W a0 l all listed a w → ∀ i ∈ Region.ready .any l.toArray listed,
      ∀ K : Act → World → Prop, (∀ a' w', Inv P W a0 l all (listed.setIfInBounds i true) a' w' → K a' w') → wpOp P l.toArray Q i K a w := by
    intro listed a w inv i hi K hK
    simp only [Region.ready, List.mem_filter, List.mem_range, List.size_toArray, Bool.and_eq_true] at hi
    obtain ⟨hlt, hnl, hdeps⟩ := hi
    have hl := List.getElem?_eq_getElem hlt
    have hunl : listed.getD i false = false := by
      have : listed.getD i true = listed.getD i false := by
        rw [Array.getD_eq_getD_getElem?, Array.getD_eq_getD_getElem?, Array.getElem?_eq_getElem (by rw [inv.size]; exact hlt)]; rfl
      rw [this] at hnl
      simpa using hnl
    rw [List.getElem?_toArray, hl] at hdeps
    simp only [Option.map_some, Option.getD_some] at hdeps
    have hdep : ∀ j, edge l[i] j = true → listed.getD j false = true := by
      intro j hj
      simp only [edge, Array.any_eq_true'] at hj
      obtain ⟨e, he, hee⟩ := hj
      simp only [Bool.and_eq_true, beq_iff_eq] at hee
      have := (Array.all_eq_true'.1 hdeps) e he
      simp only [hee.2, Bool.not_true, Bool.false_or] at this
      rw [← hee.1]; exact this
    obtain ⟨q1, ⟨d, hd, hdn, hwd⟩, q3, q4⟩ := hpart i _ hl
    obtain ⟨p, hp, hst, hop⟩ := hgood i _ hl
    have hisz : i < listed.size := by rw [inv.size]; exact hlt
    -- the invariant behind the operation
    have hnext : ∀ v w', p v w' → Below w.heap.size w w' → (isAl l[i] = true → NewAt v w w') → Inv P W a0 l all (listed.setIfInBounds i true) (a.put l[i].dst v) w' := by
      intro v w' hv hb hnew
      refine ⟨by simpa using inv.size, (put_size ..).trans inv.tsize, (put_defers ..).trans inv.defers, inv.below.trans (hb.mono inv.below.size), ?_, ?_, ?_, ?_, ?_⟩
      · intro j o hj hlj k hk
        rw [getD_set hisz] at hlj ⊢
        by_cases e : i = k
        · rw [if_pos e]
        · rw [if_neg e]
          by_cases e' : i = j
          · subst e'
            rw [hl] at hj; cases hj
            exact hdep k hk
          · rw [if_neg e'] at hlj
            exact inv.closed j o hj hlj k hk
      · intro t ht
        rw [hd]
        have hdt : d ≠ t := by
          intro e; subst e
          have := ht i _ hl hd
          rw [getD_set hisz, if_pos rfl] at this
          cases this
        rw [put_other _ _ _ _ hdt]
        refine inv.kept t fun j o hj hjt => ?_
        have := ht j o hj hjt
        rw [getD_set hisz] at this
        by_cases e : i = j
        · rw [if_pos e] at this; cases this
        · rwa [if_neg e] at this
      · intro j o p' t hj hp' hlj hjt
        by_cases e : i = j
        · subst e
          rw [hl] at hj; cases hj
          rw [hp] at hp'; cases hp'
          rw [hd] at hjt; cases hjt
          rw [hd, put_same _ _ _ (by rw [inv.tsize]; exact hdn)]
          exact hv
        · rw [getD_set hisz, if_neg e] at hlj
          have hdt : d ≠ t := by
            intro e'; subst e'
            exact e (huniq i j _ o d hl hj hd hjt)
          rw [hd, put_other _ _ _ _ hdt]
          obtain ⟨pj, hpj, hstj, _⟩ := hgood j o hj
          rw [hp'] at hpj; cases hpj
          exact hstj _ _ _ (inv.done j o p' t hj hp' hlj hjt) hb
      · intro j o t hj hal hlj hjt
        by_cases e : i = j
        · subst e
          rw [hl] at hj; cases hj
          rw [hd] at hjt; cases hjt
          obtain ⟨h1, h2⟩ := hnew hal
          exact ⟨w.heap.size, by rw [hd, put_same _ _ _ (by rw [inv.tsize]; exact hdn)]; exact h1, h2⟩
        · rw [getD_set hisz, if_neg e] at hlj
          have hdt : d ≠ t := by
            intro e'; subst e'
            exact e (huniq i j _ o d hl hj hd hjt)
          obtain ⟨g, h1, h2⟩ := inv.fresh j o t hj hal hlj hjt
          exact ⟨g, by rw [hd, put_other _ _ _ _ hdt]; exact h1, Nat.lt_of_lt_of_le h2 hb.size⟩
      · intro k j ok oj tk tj hk hj hne hak haj hlk hlj hkt hjt
        by_cases ek : i = k
        · subst ek
          rw [hl] at hk; cases hk
          rw [hd] at hkt; cases hkt
          rw [getD_set hisz, if_neg hne] at hlj
          have hdt : d ≠ tj := by
            intro e'; subst e'
            exact hne (huniq i j _ oj d hl hj hd hjt)
          obtain ⟨g, h1, h2⟩ := inv.fresh j oj tj hj haj hlj hjt
          rw [hd, put_same _ _ _ (by rw [inv.tsize]; exact hdn), put_other _ _ _ _ hdt, h1, (hnew hak).1]
          intro e'
          simp at e' <;> omega
        · by_cases ej : i = j
          · subst ej
            rw [hl] at hj; cases hj
            rw [hd] at hjt; cases hjt
            rw [getD_set hisz, if_neg ek] at hlk
            have hdt : d ≠ tk := by
              intro e'; subst e'
              exact ek (huniq i k _ ok d hl hk hd hkt)
            obtain ⟨g, h1, h2⟩ := inv.fresh k ok tk hk hak hlk hkt
            rw [hd, put_same _ _ _ (by rw [inv.tsize]; exact hdn), put_other _ _ _ _ hdt, h1, (hnew haj).1]
            intro e'
            simp at e' <;> omega
          · rw [getD_set hisz, if_neg ek] at hlk
            rw [getD_set hisz, if_neg ej] at hlj
            have hdk : d ≠ tk := by
              intro e'; subst e'
              exact ek (huniq i k _ ok d hl hk hd hkt)
            have hdj : d ≠ tj := by
              intro e'; subst e'
              exact ej (huniq i j _ oj d hl hj hd hjt)
            rw [hd, put_other _ _ _ _ hdk, put_other _ _ _ _ hdj]
            exact inv.dist k j ok oj tk tj hk hj hne hak haj hlk hlj hkt hjt
    have htk : ∀ (j : Nat) (q : Post), (all.take i)[j]? = some q → all[j]? = some q ∧ j < i := by
      intro j q h
      rw [List.getElem?_take] at h
      by_cases e : j < i
      · rw [if_pos e] at h; exact ⟨h, e⟩
      · rw [if_neg e] at h; cases h
    have hyield : ∀ j want, l[i].guard = some (j, want) → ∀ q : Post, (all.take i)[j]? = some q → ∀ b, (∀ v w, q v w → v = .bool b) → yielded l.toArray a.tmps j = some b := by
      intro j want hg q hq b hb
      obtain ⟨hq', hji⟩ := htk j q hq
      obtain ⟨_, hedge⟩ := q4 j want hg
      have hjl : j < l.length := by omega
      have hlj := List.getElem?_eq_getElem hjl
      obtain ⟨dj, hdj, hdjn, _⟩ := (hpart j _ hlj).2.1
      have hv := hb _ _ (inv.done j _ q dj hlj hq' (hdep j hedge) hdj)
      unfold yielded
      rw [List.getElem?_toArray, hlj]
      simp only [Option.bind_some, hdj]
      rw [Array.getElem?_eq_getElem (by rw [inv.tsize]; exact hdjn)]
      rw [Array.getD_eq_getD_getElem?, Array.getElem?_eq_getElem (by rw [inv.tsize]; exact hdjn)] at hv
      simp only [Option.getD_some] at hv
      rw [hv]
    unfold wpOp
    rw [List.getElem?_toArray, hl]
    simp only
    rcases hop with ⟨hw, ho⟩ | ⟨hu, hun⟩
    · have hwant : Region.wanted l[i] (yielded l.toArray a.tmps) = true := by
        unfold Region.wanted
        unfold wantedBy at hw
        cases hg : l[i].guard with
        | none => rfl
        | some g =>
          obtain ⟨j, want⟩ := g
          rw [hg] at hw
          obtain ⟨q, hq, hb⟩ := hw
          simp only [hyield j want hg q hq want hb, beq_self_eq_true]
      rw [if_pos hwant]
      refine .inl (al_wp d hd (by rw [inv.tsize]; exact hdn) (ho a w ?_ inv.below) K fun v w' hv hb hnew => hK _ _ (hnext v w' hv hb hnew))
      refine facts_mk _ fun t ht => ?_
      cases hwr : writerOf (l.map (·.dst)) t with
      | none =>
        simp only [Option.bind_none]
        exact inv.kept t fun j o hj hjt => absurd hjt (writer_none hwr j o hj)
      | some j =>
        simp only [Option.bind_some]
        obtain ⟨oj, hoj, hjt⟩ := writer_some hwr
        have hunlisted : ¬ j < i → listed.getD j false = false := by
          intro hji
          rcases q3 t ht j hwr with e | ⟨e, _⟩ | ⟨_, oj', hoj', e⟩
          · subst e; exact hunl
          · exact absurd e hji
          · rw [hoj] at hoj'; cases hoj'
            cases hb : listed.getD j false with
            | false => rfl
            | true =>
              have := inv.closed j oj hoj hb i e
              rw [hunl] at this; cases this
        by_cases hji : j < i
        · have hjl : j < l.length := by omega
          have hpj : all[j]? = some all[j] := List.getElem?_eq_getElem (by omega)
          rw [List.getElem?_take, if_pos hji, hpj]
          simp only
          have hedge : edge l[i] j = true := by
            rcases q3 t ht j hwr with e | ⟨_, e⟩ | ⟨e, _⟩
            · omega
            · exact e
            · omega
          exact inv.done j oj _ t hoj hpj (hdep j hedge) hjt
        · rw [List.getElem?_take, if_neg hji]
          simp only
          refine inv.kept t fun j' o' hj' hj't => ?_
          have := huniq j' j o' oj t hj' hoj hj't hjt
          subst this
          exact hunlisted hji
    · have hwant : Region.wanted l[i] (yielded l.toArray a.tmps) = false := by
        unfold Region.wanted
        unfold unwantedBy at hu
        cases hg : l[i].guard with
        | none => rw [hg] at hu; exact hu.elim
        | some g =>
          obtain ⟨j, want⟩ := g
          rw [hg] at hu
          obtain ⟨q, hq, hb⟩ := hu
          simp only [hyield j want hg q hq (!want) hb]
          cases want <;> rfl
      rw [if_neg (by rw [hwant]; simp)]
      exact hK _ _ (hnext undef w (hun w) (Below.refl _ _) (fun hal => by unfold unwantedBy at hu; rw [(isAl_op hal).2] at hu; exact hu.elim))
  intro fuel
  induction fuel with
  | zero =>
    intro listed a w inv hc
    have hfull : ∀ i, i < l.length → listed.getD i false = true := by
      intro i hi
      cases hb : listed.getD i false with
      | true => rfl
      | false =>
        exfalso
        have hi' : i < listed.size := by rw [inv.size]; exact hi
        rw [Array.getD_eq_getD_getElem?, Array.getElem?_eq_getElem hi'] at hb
        simp only [Option.getD_some] at hb
        have : false ∈ listed.toList := by
          rw [← hb]; simp
        have := List.count_pos_iff.2 this
        omega
    refine ⟨?_, hend listed a w inv hfull⟩
    cases hr : Region.ready .any l.toArray listed with
    | nil => rfl
    | cons x xs =>
      exfalso
      have hx : x ∈ Region.ready .any l.toArray listed := by rw [hr]; exact List.mem_cons_self ..
      simp only [Region.ready, List.mem_filter, List.mem_range, List.size_toArray, Bool.and_eq_true] at hx
      have h1 := hfull x hx.1
      have h2 : listed.getD x true = listed.getD x false := by
        rw [Array.getD_eq_getD_getElem?, Array.getD_eq_getD_getElem?, Array.getElem?_eq_getElem (by rw [inv.size]; exact hx.1)]; rfl
      rw [h2, h1] at hx
      simp at hx
  | succ fuel ih =>
    intro listed a w inv hc
    refine ⟨fun hr => hend listed a w inv (hready listed a w inv hr), fun i hi => ?_⟩
    refine hstep listed a w inv i hi _ fun a' w' inv' => ih _ a' w' inv' ?_
    simp only [Region.ready, List.mem_filter, List.mem_range, List.size_toArray, Bool.and_eq_true] at hi
    have hi' : i < listed.size := by rw [inv.size]; exact hi.1
    have hf : listed[i] = false := by
      have := hi.2.1
      rw [Array.getD_eq_getD_getElem?, Array.getElem?_eq_getElem hi'] at this
      simpa using this
    rw [Array.toList_setIfInBounds, List.count_set (by simpa using hi')]
    simp only [Array.getElem_toList, hf]
    have : 0 < listed.toList.count false := List.count_pos_iff.2 (by rw [← hf]; simp)
    rw [if_pos (by rfl), if_neg (by decide)]
    omega

end
/-- The rule's chain, with the new variables told apart at its end. -/
def ChainA (P : Program) (Q : Exit → Act → World → Prop) (W : World) (a0 : Act) (ds : List (Option Tmp)) (L : List Oper) : List Oper → List Post → Prop
  | [], posts => ∀ (us : Nat → Value) (w : World), allPosts us w 0 posts → Dist us L → Below W.heap.size W w → Q .normal (putsFrom us 0 ds a0) w
  | o :: r, posts => ∃ p, Stable p ∧ ((wantedBy posts o ∧ opOk P Q W a0 ds posts o p) ∨ (unwantedBy posts o ∧ ∀ w, p undef w)) ∧ ChainA P Q W a0 ds L r (posts ++ [p])
section
variable {P : Program} {Q : Exit → Act → World → Prop} {W : World} {a0 : Act} {l : List Oper} {ds : List (Option Tmp)}
theorem chainA_open (L : List Oper) : ∀ (r : List Oper) (posts : List Post), ChainA P Q W a0 ds L r posts →
    ∃ all : List Post, all.length = posts.length + r.length ∧ all.take posts.length = posts ∧
      (∀ (i : Nat) (o : Oper), r[i]? = some o → good P Q W a0 ds all (posts.length + i) o) ∧
      (∀ (us : Nat → Value) (w : World), allPosts us w 0 all → Dist us L → Below W.heap.size W w → Q .normal (putsFrom us 0 ds a0) w) := by
  intro r
  induction r with
  | nil => intro posts h; exact ⟨posts, by simp, by simp, fun i o hi => by simp at hi, h⟩
  | cons o r ih =>
    intro posts h
    obtain ⟨p, hs, hop, hr⟩ := h
    obtain ⟨all, hl, ht, hg, hf⟩ := ih _ hr
    have hlp : (posts ++ [p]).length = posts.length + 1 := by simp
    rw [hlp] at hl ht hg
    have htake : all.take posts.length = posts := by
      have := congrArg (List.take posts.length) ht
      rw [List.take_take, List.take_left] at this
      rwa [Nat.min_eq_left (by omega)] at this
    have hp : all[posts.length]? = some p := by
      have h1 : (all.take (posts.length + 1))[posts.length]? = some p := by rw [ht]; simp
      rw [List.getElem?_take, if_pos (by omega)] at h1
      exact h1
    refine ⟨all, by simp at hl ⊢; omega, htake, ?_, hf⟩
    intro i o' hi
    cases i with
    | zero =>
      simp at hi; subst hi
      refine ⟨p, by simpa using hp, hs, ?_⟩
      rw [Nat.add_zero, htake]; exact hop
    | succ i =>
      have := hg i o' (by simpa using hi)
      rwa [show posts.length + 1 + i = posts.length + (i + 1) from by omega] at this

theorem chainA_is {L : List Oper} {o : Oper} {r : List Oper} {posts : List Post} (v : Value) (hw : wantedBy posts o) (h : opOk P Q W a0 ds posts o (Is v)) (hr : ChainA P Q W a0 ds L r (posts ++ [Is v])) : ChainA P Q W a0 ds L (o :: r) posts :=
  ⟨Is v, Is.stable v, .inl ⟨hw, h⟩, hr⟩
theorem chainA_skip {L : List Oper} {o : Oper} {r : List Oper} {posts : List Post} (hu : unwantedBy posts o) (hr : ChainA P Q W a0 ds L r (posts ++ [Is undef])) : ChainA P Q W a0 ds L (o :: r) posts :=
  ⟨Is undef, Is.stable undef, .inr ⟨hu, fun _ => rfl⟩, hr⟩
theorem wp_region_tail_at {Qf : Exit → Act → World → Prop} {L : List Oper} {id : Nat} {w : World} (n : Nat) (hds : (L.take n).map (·.dst) = ds) (hm : P.follows .mixedOrders = true)
    (hok : okFrom (L.take n) a0.tmps.size 0 (L.take n) = true) (hback : backB 0 (L.take n) = true)
    (hs : Region.sinkB .any L.toArray (L.take n).length = true) (hc : Region.chainB .any L.toArray (L.take n).length = true) (htl : 0 < (L.drop n).length)
    (hseq : Region.seqB .any L.toArray (L.drop n).length (L.take n).length ((List.replicate (L.take n).length true ++ List.replicate (L.drop n).length false).toArray) = true)
    (h : ChainA P (TailQ P L.toArray (L.drop n) Qf) w a0 ds (L.take n) (L.take n) []) : (Code.region id L.toArray true).wp P Qf a0 w := by
  have e := List.take_append_drop n L
  generalize L.take n = l at *
  generalize L.drop n = tl at *
  subst e
  obtain ⟨all, hl, _, hg, hf⟩ := chainA_open l l [] h
  refine wp_region_any hm ?_
  have H := main_any (P := P) (Q := TailQ P (l ++ tl).toArray tl Qf) (W := w) (a0 := a0) (all := all) hds (by simpa using hl) (fun i o hi => by simpa using okFrom_at l 0 hok i o hi) (fun i o hi => by simpa using hg i o hi) hf
    l.length (Array.replicate l.length false) a0 { w with drawn := w.drawn + 1 } ?_ (by simp)
  · have := any_of_head (F := Array.replicate (l.length + tl.length) false) (fun h => h) hback hs hc htl hseq l.length (Array.replicate l.length false) a0 { w with drawn := w.drawn + 1 } (by simp) (by simp)
      (fun i hi => by rw [getD_replicate_false, getD_replicate_false]) (fun t h1 h2 => by rw [Array.getD_eq_getD_getElem?, Array.getElem?_eq_getElem (by simpa using h2)]; simp)
      (fun j o _ hl' => by rw [getD_replicate_false] at hl'; cases hl') (by simp) H
    simpa using this
  · refine ⟨by simp, rfl, rfl, (Below.refl _ _).drew, ?_, fun t _ => rfl, ?_, ?_, ?_⟩
    · intro i o _ hl'
      rw [getD_replicate_false] at hl'; cases hl'
    · intro j o p t _ _ hl' _
      rw [getD_replicate_false] at hl'; cases hl'
    · intro j o t _ _ hl' _
      rw [getD_replicate_false] at hl'; cases hl'
    · intro i j oi oj ti tj _ _ _ _ _ hl' _ _ _
      rw [getD_replicate_false] at hl'; cases hl'
end
end Go.ConflA
