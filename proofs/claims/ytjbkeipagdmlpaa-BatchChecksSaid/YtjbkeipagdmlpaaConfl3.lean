/- The same rule where the head makes new variables too: they are told apart. Then a tail of one forced order (stores into them). -/
import Derived.Test.YtjbkeipagdmlpaaConfl2
namespace Go.ConflA
open Go.RowKit Go.Confl
/-- It makes a new variable. -/
def isAl (o : Oper) : Bool := match o.op with | .alloc _ => o.guard == none | _ => false
/-- The value lies in a new block behind the world w. -/
def NewAt (v : Value) (w w' : World) : Prop := v = .pointer (some ⟨w.heap.size, 0, none⟩) ∧ w.heap.size < w'.heap.size
theorem isAl_op {o : Oper} (h : isAl o = true) : (∃ t, o.op = .alloc t) ∧ o.guard = none := by
  unfold isAl at h
  split at h
  · rename_i t ht; exact ⟨⟨t, ht⟩, by simpa using h⟩
  · cases h
section
variable {P : Program} {Q : Exit → Act → World → Prop}
theorem al_wp {o : Oper} {a : Act} {w : World} {p : Value → World → Prop} (d : Nat) (hd : o.dst = some d) (hdn : d < a.tmps.size)
    (h : ∀ K : Act → World → Prop, (∀ v w', p v w' → Below w.heap.size w w' → K (a.put o.dst v) w') → o.wp P a w K Q) :
    ∀ K : Act → World → Prop, (∀ v w', p v w' → Below w.heap.size w w' → (isAl o = true → NewAt v w w') → K (a.put o.dst v) w') → o.wp P a w K Q := by
  intro K hK
  by_cases hal : isAl o = true
  · obtain ⟨⟨t, ht⟩, _⟩ := isAl_op hal
    have h1 := h (fun a' w' => ∃ v, p v w' ∧ Below w.heap.size w w' ∧ a' = a.put o.dst v) (fun v w' hv hb => ⟨v, hv, hb, rfl⟩)
    unfold Oper.wp at h1 ⊢
    have hrun : ∀ n w', (execOp a.eval o).run P w = .ok n w' → ∃ v, n = .value v ∧ NewAt v w w' := by
      intro n w' hr
      simp [execOp, ht, Instr.alloc, newVar] at hr
      cases hi : P.info? t with
      | none => simp [zeroValue, typeInfo, hi] at hr
      | some ti =>
        cases hz : ti.zero with
        | none => simp [zeroValue, typeInfo, hi, hz] at hr
        | some z =>
          simp [zeroValue, typeInfo, hi, hz, newRow] at hr
          obtain ⟨rfl, rfl⟩ := hr
          exact ⟨_, rfl, rfl, by simp⟩
    have hhalt : ∀ x w', (execOp a.eval o).run P w = .halt x w' → o.upon P a K Q (.halt x w') := by
      intro x w' hr
      rw [hr] at h1
      cases x <;> exact h1
    cases hr : (execOp a.eval o).run P w with
    | halt x w' => exact hhalt x w' hr
    | ok n w' =>
      obtain ⟨v, rfl, hn⟩ := hrun n w' hr
      rw [hr] at h1
      obtain ⟨v', hv, hb, he⟩ := h1
      have e : v = v' := by
        have h2 := put_same a d v hdn
        have h3 := put_same a d v' hdn
        rw [hd] at he
        rw [he] at h2
        exact h2.symm.trans h3
      subst e
      exact hK v w' hv hb (fun _ => hn)
  · exact h K (fun v w' hv hb => hK v w' hv hb (fun e => absurd e hal))
end
section
variable {P : Program} {Q : Exit → Act → World → Prop} {W : World} {a0 : Act} {l : List Oper} {ds : List (Option Tmp)}
structure Inv (P : Program) (W : World) (a0 : Act) (l : List Oper) (all : List Post) (listed : Array Bool) (a : Act) (w : World) : Prop where
  size : listed.size = l.length
  tsize : a.tmps.size = a0.tmps.size
  defers : a.defers = a0.defers
  below : Below W.heap.size W w
  closed : ∀ (i : Nat) (o : Oper), l[i]? = some o → listed.getD i false = true → ∀ j, edge o j = true → listed.getD j false = true
  kept : ∀ t, (∀ (j : Nat) (o : Oper), l[j]? = some o → o.dst = some t → listed.getD j false = false) → a.tmps.getD t undef = a0.tmps.getD t undef
  done : ∀ (j : Nat) (o : Oper) (p : Post) (t : Nat), l[j]? = some o → all[j]? = some p → listed.getD j false = true → o.dst = some t → p (a.tmps.getD t undef) w
  fresh : ∀ (j : Nat) (o : Oper) (t : Nat), l[j]? = some o → isAl o = true → listed.getD j false = true → o.dst = some t → ∃ g, a.tmps.getD t undef = .pointer (some ⟨g, 0, none⟩) ∧ g < w.heap.size
  dist : ∀ (i j : Nat) (oi oj : Oper) (ti tj : Nat), l[i]? = some oi → l[j]? = some oj → i ≠ j → isAl oi = true → isAl oj = true → listed.getD i false = true → listed.getD j false = true →
    oi.dst = some ti → oj.dst = some tj → a.tmps.getD ti undef ≠ a.tmps.getD tj undef

/-- The new variables are told apart. -/
def Dist (us : Nat → Value) (l : List Oper) : Prop := ∀ (i j : Nat) (oi oj : Oper), l[i]? = some oi → l[j]? = some oj → i ≠ j → isAl oi = true → isAl oj = true → us i ≠ us j

theorem main_any {all : List Post} (hds : l.map (·.dst) = ds) (hall : all.length = l.length) (hok : ∀ (i : Nat) (o : Oper), l[i]? = some o → okAt l a0.tmps.size i o = true) (hgood : ∀ (i : Nat) (o : Oper), l[i]? = some o → good P Q W a0 ds all i o)
    (hfin : ∀ (us : Nat → Value) (w : World), allPosts us w 0 all → Dist us l → Below W.heap.size W w → Q .normal (putsFrom us 0 ds a0) w) :
    ∀ (fuel : Nat) (listed : Array Bool) (a : Act) (w : World), Inv P W a0 l all listed a w → listed.toList.count false ≤ fuel → wpAny P .any l.toArray Q fuel listed a w := by
  subst hds
  have hpart : ∀ (i : Nat) (o : Oper), l[i]? = some o → (∀ j, edge o j = true → j < i) ∧ (∃ d, o.dst = some d ∧ d < a0.tmps.size ∧ writerOf (l.map (·.dst)) d = some i) ∧
      (∀ t ∈ tmpsOf o, ∀ j, writerOf (l.map (·.dst)) t = some j → j = i ∨ (j < i ∧ edge o j = true) ∨ (i < j ∧ ∃ oj, l[j]? = some oj ∧ edge oj i = true)) ∧ (∀ j want, o.guard = some (j, want) → j < i ∧ edge o j = true) := by
    intro i o hi
    have h := hok i o hi
    simp only [okAt, Bool.and_eq_true] at h
    obtain ⟨⟨⟨h1, h2⟩, h3⟩, h4⟩ := h
    refine ⟨?_, ?_, ?_, ?_⟩
    · intro j hj
      simp only [edge, Array.any_eq_true'] at hj
      obtain ⟨e, he, hee⟩ := hj
      simp only [Bool.and_eq_true, beq_iff_eq] at hee
      have := (Array.all_eq_true'.1 h1) e he
      simp only [hee.2, Bool.not_true, Bool.false_or, decide_eq_true_eq] at this
      omega
    · cases hd : o.dst with
      | none => rw [hd] at h2; simp at h2
      | some d =>
        rw [hd] at h2
        simp only [Bool.and_eq_true, decide_eq_true_eq, beq_iff_eq] at h2
        exact ⟨d, rfl, h2.1, h2.2⟩
    · intro t ht j hj
      have := List.all_eq_true.1 h3 t ht
      simp only [hj, Bool.or_eq_true, beq_iff_eq, Bool.and_eq_true, decide_eq_true_eq] at this
      rcases this with (h | h) | ⟨h, h'⟩
      · exact .inl h
      · exact .inr (.inl h)
      · cases ho : l[j]? with
        | none => rw [ho] at h'; simp at h'
        | some oj => rw [ho] at h'; exact .inr (.inr ⟨h, oj, rfl, by simpa using h'⟩)
    · intro j want hg
      rw [hg] at h4
      simpa using h4
  have huniq : ∀ (i j : Nat) (o o' : Oper) (t : Nat), l[i]? = some o → l[j]? = some o' → o.dst = some t → o'.dst = some t → i = j := by
    intro i j o o' t hi hj hd hd'
    obtain ⟨d, e1, _, e2⟩ := (hpart i o hi).2.1
    obtain ⟨d', e1', _, e2'⟩ := (hpart j o' hj).2.1
    rw [hd] at e1; rw [hd'] at e1'
    cases e1; cases e1'
    rw [e2] at e2'; exact Option.some.inj e2'
  -- everything is listed: the end
  have hend : ∀ (listed : Array Bool) (a : Act) (w : World), Inv P W a0 l all listed a w → (∀ i, i < l.length → listed.getD i false = true) → Q .normal a w := by
    intro listed a w inv hfull
    have hus : a = putsFrom (fun j => match l[j]? with | some o => (match o.dst with | some t => a.tmps.getD t undef | none => undef) | none => undef) 0 (l.map (·.dst)) a0 := by
      have hps := puts_size (fun j => match l[j]? with | some o => (match o.dst with | some t => a.tmps.getD t undef | none => undef) | none => undef) (l.map (·.dst)) 0 a0
      refine act_eq (inv.tsize.trans hps.1.symm) (inv.defers.trans hps.2.symm) fun t => ?_
      cases hw : writerOf (l.map (·.dst)) t with
      | none =>
        rw [puts_far _ (l.map (·.dst)) 0 a0 t (fun o ho hd => by
          obtain ⟨x, hx, rfl⟩ := List.mem_map.1 ho
          obtain ⟨j, hj⟩ := List.mem_iff_getElem?.1 hx
          exact writer_none hw j x hj hd)]
        exact inv.kept t fun j o hj hd => absurd hd (writer_none hw j o hj)
      | some j =>
        obtain ⟨o, hj, hd⟩ := writer_some hw
        obtain ⟨d, e1, e2, _⟩ := (hpart j o hj).2.1
        rw [hd] at e1; cases e1
        rw [puts_at _ (l.map (·.dst)) 0 a0 t j (by rw [List.getElem?_map, hj]; simp [hd]) (fun i hi => by
          rw [List.getElem?_map] at hi
          obtain ⟨x, hx, hxd⟩ := Option.map_eq_some_iff.1 hi
          exact huniq i j x o t hx hj hxd hd) e2, Nat.zero_add]
        simp only [hj, hd]
    rw [hus]
    refine hfin _ w (allPosts_mk _ w all 0 fun i p hp => ?_) (fun i j oi oj hi hj hne hai haj => ?_) inv.below
    rotate_left
    · obtain ⟨ti, e1, _, _⟩ := (hpart i oi hi).2.1
      obtain ⟨tj, e2, _, _⟩ := (hpart j oj hj).2.1
      simp only [hi, hj, e1, e2]
      exact inv.dist i j oi oj ti tj hi hj hne hai haj (hfull i (List.getElem?_eq_some_iff.1 hi).1) (hfull j (List.getElem?_eq_some_iff.1 hj).1) e1 e2
    have hi : i < l.length := by
      have := (List.getElem?_eq_some_iff.1 hp).1
      omega
    have hl := List.getElem?_eq_getElem hi
    obtain ⟨d, e1, _, _⟩ := (hpart i _ hl).2.1
    rw [Nat.zero_add]
    simp only [hl, e1]
    exact inv.done i _ p d hl hp (hfull i hi) e1
  have hready : ∀ (listed : Array Bool) (a : Act) (w : World), Inv P W a0 l all listed a w → Region.ready .any l.toArray listed = [] → ∀ i, i < l.length → listed.getD i false = true := by
    intro listed a w inv hr i
    induction i using Nat.strongRecOn with
    | _ i ih =>
      intro hi
      cases hb : listed.getD i false with
      | true => rfl
      | false =>
        exfalso
        have hl := List.getElem?_eq_getElem hi
        have hmem : i ∈ Region.ready .any l.toArray listed := by
          simp only [Region.ready, List.mem_filter, List.mem_range, List.size_toArray, Bool.and_eq_true]
          refine ⟨hi, ?_, ?_⟩
          · have : listed.getD i true = listed.getD i false := by
              rw [Array.getD_eq_getD_getElem?, Array.getD_eq_getD_getElem?, Array.getElem?_eq_getElem (by rw [inv.size]; exact hi)]; rfl
            rw [this, hb]; rfl
          · rw [List.getElem?_toArray, hl]
            simp only [Option.map_some, Option.getD_some]
            rw [Array.all_eq_true']
            intro e he
            cases hbd : Region.binds .any e with
            | false => rfl
            | true =>
              have hedge : edge l[i] e.on = true := by
                simp only [edge, Array.any_eq_true']
                exact ⟨e, he, by simp [hbd]⟩
              have := ih e.on ((hpart i _ hl).1 e.on hedge) (by have := (hpart i _ hl).1 e.on hedge; omega)
              rw [this]; rfl
        rw [hr] at hmem
        simp at hmem
  have hstep : ∀ (listed : Array Bool) (a : Act) (w : World), Inv P W a0 l all listed a w → ∀ i ∈ Region.ready .any l.toArray listed,
      ∀ K : Act → World → Prop, (∀ a' w', Inv P W a0 l all (listed.setIfInBounds i true) a' w' → K a' w') → wpOp P l.toArray Q i K a w := by
    intro listed a w inv i hi K hK
    simp only [Region.ready, List.mem_filter, List.mem_range, List.size_toArray, Bool.and_eq_true] at hi
    obtain ⟨hlt, hnl, hdeps⟩ := hi
    have hl := List.getElem?_eq_getElem hlt
    have hunl : listed.getD i false = false := by
      have : listed.getD i true = listed.getD i false := by
        rw [Array.getD_eq_getD_getElem?, Array.getD_eq_getD_getElem?, Array.getElem?_eq_getElem (by rw [inv.size]; exact hlt)]; rfl
      rw [this] at hnl
      simpa using hnl
    rw [List.getElem?_toArray, hl] at hdeps
    simp only [Option.map_some, Option.getD_some] at hdeps
    have hdep : ∀ j, edge l[i] j = true → listed.getD j false = true := by
      intro j hj
      simp only [edge, Array.any_eq_true'] at hj
      obtain ⟨e, he, hee⟩ := hj
      simp only [Bool.and_eq_true, beq_iff_eq] at hee
      have := (Array.all_eq_true'.1 hdeps) e he
      simp only [hee.2, Bool.not_true, Bool.false_or] at this
      rw [← hee.1]; exact this
    obtain ⟨q1, ⟨d, hd, hdn, hwd⟩, q3, q4⟩ := hpart i _ hl
    obtain ⟨p, hp, hst, hop⟩ := hgood i _ hl
    have hisz : i < listed.size := by rw [inv.size]; exact hlt
    -- the invariant behind the operation
    have hnext : ∀ v w', p v w' → Below w.heap.size w w' → (isAl l[i] = true → NewAt v w w') → Inv P W a0 l all (listed.setIfInBounds i true) (a.put l[i].dst v) w' := by
      intro v w' hv hb hnew
      refine ⟨by simpa using inv.size, (put_size ..).trans inv.tsize, (put_defers ..).trans inv.defers, inv.below.trans (hb.mono inv.below.size), ?_, ?_, ?_, ?_, ?_⟩
      · intro j o hj hlj k hk
        rw [getD_set hisz] at hlj ⊢
        by_cases e : i = k
        · rw [if_pos e]
        · rw [if_neg e]
          by_cases e' : i = j
          · subst e'
            rw [hl] at hj; cases hj
            exact hdep k hk
          · rw [if_neg e'] at hlj
            exact inv.closed j o hj hlj k hk
      · intro t ht
        rw [hd]
        have hdt : d ≠ t := by
          intro e; subst e
          have := ht i _ hl hd
          rw [getD_set hisz, if_pos rfl] at this
          cases this
        rw [put_other _ _ _ _ hdt]
        refine inv.kept t fun j o hj hjt => ?_
        have := ht j o hj hjt
        rw [getD_set hisz] at this
        by_cases e : i = j
        · rw [if_pos e] at this; cases this
        · rwa [if_neg e] at this
      · intro j o p' t hj hp' hlj hjt
        by_cases e : i = j
        · subst e
          rw [hl] at hj; cases hj
          rw [hp] at hp'; cases hp'
          rw [hd] at hjt; cases hjt
          rw [hd, put_same _ _ _ (by rw [inv.tsize]; exact hdn)]
          exact hv
        · rw [getD_set hisz, if_neg e] at hlj
          have hdt : d ≠ t := by
            intro e'; subst e'
            exact e (huniq i j _ o d hl hj hd hjt)
          rw [hd, put_other _ _ _ _ hdt]
          obtain ⟨pj, hpj, hstj, _⟩ := hgood j o hj
          rw [hp'] at hpj; cases hpj
          exact hstj _ _ _ (inv.done j o p' t hj hp' hlj hjt) hb
      · intro j o t hj hal hlj hjt
        by_cases e : i = j
        · subst e
          rw [hl] at hj; cases hj
          rw [hd] at hjt; cases hjt
          obtain ⟨h1, h2⟩ := hnew hal
          exact ⟨w.heap.size, by rw [hd, put_same _ _ _ (by rw [inv.tsize]; exact hdn)]; exact h1, h2⟩
        · rw [getD_set hisz, if_neg e] at hlj
          have hdt : d ≠ t := by
            intro e'; subst e'
            exact e (huniq i j _ o d hl hj hd hjt)
          obtain ⟨g, h1, h2⟩ := inv.fresh j o t hj hal hlj hjt
          exact ⟨g, by rw [hd, put_other _ _ _ _ hdt]; exact h1, Nat.lt_of_lt_of_le h2 hb.size⟩
      · intro k j ok oj tk tj hk hj hne hak haj hlk hlj hkt hjt
        by_cases ek : i = k
        · subst ek
          rw [hl] at hk; cases hk
          rw [hd] at hkt; cases hkt
          rw [getD_set hisz, if_neg hne] at hlj
          have hdt : d ≠ tj := by
            intro e'; subst e'
            exact hne (huniq i j _ oj d hl hj hd hjt)
          obtain ⟨g, h1, h2⟩ := inv.fresh j oj tj hj haj hlj hjt
          rw [hd, put_same _ _ _ (by rw [inv.tsize]; exact hdn), put_other _ _ _ _ hdt, h1, (hnew hak).1]
          intro e'
          simp at e' <;> omega
        · by_cases ej : i = j
          · subst ej
            rw [hl] at hj; cases hj
            rw [hd] at hjt; cases hjt
            rw [getD_set hisz, if_neg ek] at hlk
            have hdt : d ≠ tk := by
              intro e'; subst e'
              exact ek (huniq i k _ ok d hl hk hd hkt)
            obtain ⟨g, h1, h2⟩ := inv.fresh k ok tk hk hak hlk hkt
            rw [hd, put_same _ _ _ (by rw [inv.tsize]; exact hdn), put_other _ _ _ _ hdt, h1, (hnew haj).1]
            intro e'
            simp at e' <;> omega
          · rw [getD_set hisz, if_neg ek] at hlk
            rw [getD_set hisz, if_neg ej] at hlj
            have hdk : d ≠ tk := by
              intro e'; subst e'
              exact ek (huniq i k _ ok d hl hk hd hkt)
            have hdj : d ≠ tj := by
              intro e'; subst e'
              exact ej (huniq i j _ oj d hl hj hd hjt)
            rw [hd, put_other _ _ _ _ hdk, put_other _ _ _ _ hdj]
            exact inv.dist k j ok oj tk tj hk hj hne hak haj hlk hlj hkt hjt
    have htk : ∀ (j : Nat) (q : Post), (all.take i)[j]? = some q → all[j]? = some q ∧ j < i := by
      intro j q h
      rw [List.getElem?_take] at h
      by_cases e : j < i
      · rw [if_pos e] at h; exact ⟨h, e⟩
      · rw [if_neg e] at h; cases h
    have hyield : ∀ j want, l[i].guard = some (j, want) → ∀ q : Post, (all.take i)[j]? = some q → ∀ b, (∀ v w, q v w → v = .bool b) → yielded l.toArray a.tmps j = some b := by
      intro j want hg q hq b hb
      obtain ⟨hq', hji⟩ := htk j q hq
      obtain ⟨_, hedge⟩ := q4 j want hg
      have hjl : j < l.length := by omega
      have hlj := List.getElem?_eq_getElem hjl
      obtain ⟨dj, hdj, hdjn, _⟩ := (hpart j _ hlj).2.1
      have hv := hb _ _ (inv.done j _ q dj hlj hq' (hdep j hedge) hdj)
      unfold yielded
      rw [List.getElem?_toArray, hlj]
      simp only [Option.bind_some, hdj]
      rw [Array.getElem?_eq_getElem (by rw [inv.tsize]; exact hdjn)]
      rw [Array.getD_eq_getD_getElem?, Array.getElem?_eq_getElem (by rw [inv.tsize]; exact hdjn)] at hv
      simp only [Option.getD_some] at hv
      rw [hv]
    unfold wpOp
    rw [List.getElem?_toArray, hl]
    simp only
    rcases hop with ⟨hw, ho⟩ | ⟨hu, hun⟩
    · have hwant : Region.wanted l[i] (yielded l.toArray a.tmps) = true := by
        unfold Region.wanted
        unfold wantedBy at hw
        cases hg : l[i].guard with
        | none => rfl
        | some g =>
          obtain ⟨j, want⟩ := g
          rw [hg] at hw
          obtain ⟨q, hq, hb⟩ := hw
          simp only [hyield j want hg q hq want hb, beq_self_eq_true]
      rw [if_pos hwant]
      refine .inl (al_wp d hd (by rw [inv.tsize]; exact hdn) (ho a w ?_ inv.below) K fun v w' hv hb hnew => hK _ _ (hnext v w' hv hb hnew))
      refine facts_mk _ fun t ht => ?_
      cases hwr : writerOf (l.map (·.dst)) t with
      | none =>
        simp only [Option.bind_none]
        exact inv.kept t fun j o hj hjt => absurd hjt (writer_none hwr j o hj)
      | some j =>
        simp only [Option.bind_some]
        obtain ⟨oj, hoj, hjt⟩ := writer_some hwr
        have hunlisted : ¬ j < i → listed.getD j false = false := by
          intro hji
          rcases q3 t ht j hwr with e | ⟨e, _⟩ | ⟨_, oj', hoj', e⟩
          · subst e; exact hunl
          · exact absurd e hji
          · rw [hoj] at hoj'; cases hoj'
            cases hb : listed.getD j false with
            | false => rfl
            | true =>
              have := inv.closed j oj hoj hb i e
              rw [hunl] at this; cases this
        by_cases hji : j < i
        · have hjl : j < l.length := by omega
          have hpj : all[j]? = some all[j] := List.getElem?_eq_getElem (by omega)
          rw [List.getElem?_take, if_pos hji, hpj]
          simp only
          have hedge : edge l[i] j = true := by
            rcases q3 t ht j hwr with e | ⟨_, e⟩ | ⟨e, _⟩
            · omega
            · exact e
            · omega
          exact inv.done j oj _ t hoj hpj (hdep j hedge) hjt
        · rw [List.getElem?_take, if_neg hji]
          simp only
          refine inv.kept t fun j' o' hj' hj't => ?_
          have := huniq j' j o' oj t hj' hoj hj't hjt
          subst this
          exact hunlisted hji
    · have hwant : Region.wanted l[i] (yielded l.toArray a.tmps) = false := by
        unfold Region.wanted
        unfold unwantedBy at hu
        cases hg : l[i].guard with
        | none => rw [hg] at hu; exact hu.elim
        | some g =>
          obtain ⟨j, want⟩ := g
          rw [hg] at hu
          obtain ⟨q, hq, hb⟩ := hu
          simp only [hyield j want hg q hq (!want) hb]
          cases want <;> rfl
      rw [if_neg (by rw [hwant]; simp)]
      exact hK _ _ (hnext undef w (hun w) (Below.refl _ _) (fun hal => by unfold unwantedBy at hu; rw [(isAl_op hal).2] at hu; exact hu.elim))
  intro fuel
  induction fuel with
  | zero =>
    intro listed a w inv hc
    have hfull : ∀ i, i < l.length → listed.getD i false = true := by
      intro i hi
      cases hb : listed.getD i false with
      | true => rfl
      | false =>
        exfalso
        have hi' : i < listed.size := by rw [inv.size]; exact hi
        rw [Array.getD_eq_getD_getElem?, Array.getElem?_eq_getElem hi'] at hb
        simp only [Option.getD_some] at hb
        have : false ∈ listed.toList := by
          rw [← hb]; simp
        have := List.count_pos_iff.2 this
        omega
    refine ⟨?_, hend listed a w inv hfull⟩
    cases hr : Region.ready .any l.toArray listed with
    | nil => rfl
    | cons x xs =>
      exfalso
      have hx : x ∈ Region.ready .any l.toArray listed := by rw [hr]; exact List.mem_cons_self ..
      simp only [Region.ready, List.mem_filter, List.mem_range, List.size_toArray, Bool.and_eq_true] at hx
      have h1 := hfull x hx.1
      have h2 : listed.getD x true = listed.getD x false := by
        rw [Array.getD_eq_getD_getElem?, Array.getD_eq_getD_getElem?, Array.getElem?_eq_getElem (by rw [inv.size]; exact hx.1)]; rfl
      rw [h2, h1] at hx
      simp at hx
  | succ fuel ih =>
    intro listed a w inv hc
    refine ⟨fun hr => hend listed a w inv (hready listed a w inv hr), fun i hi => ?_⟩
    refine hstep listed a w inv i hi _ fun a' w' inv' => ih _ a' w' inv' ?_
    simp only [Region.ready, List.mem_filter, List.mem_range, List.size_toArray, Bool.and_eq_true] at hi
    have hi' : i < listed.size := by rw [inv.size]; exact hi.1
    have hf : listed[i] = false := by
      have := hi.2.1
      rw [Array.getD_eq_getD_getElem?, Array.getElem?_eq_getElem hi'] at this
      simpa using this
    rw [Array.toList_setIfInBounds, List.count_set (by simpa using hi')]
    simp only [Array.getElem_toList, hf]
    have : 0 < listed.toList.count false := List.count_pos_iff.2 (by rw [← hf]; simp)
    rw [if_pos (by rfl), if_neg (by decide)]
    omega

end
/-- The rule's chain, with the new variables told apart at its end. -/
def ChainA (P : Program) (Q : Exit → Act → World → Prop) (W : World) (a0 : Act) (ds : List (Option Tmp)) (L : List Oper) : List Oper → List Post → Prop
  | [], posts => ∀ (us : Nat → Value) (w : World), allPosts us w 0 posts → Dist us L → Below W.heap.size W w → Q .normal (putsFrom us 0 ds a0) w
  | o :: r, posts => ∃ p, Stable p ∧ ((wantedBy posts o ∧ opOk P Q W a0 ds posts o p) ∨ (unwantedBy posts o ∧ ∀ w, p undef w)) ∧ ChainA P Q W a0 ds L r (posts ++ [p])
section
variable {P : Program} {Q : Exit → Act → World → Prop} {W : World} {a0 : Act} {l : List Oper} {ds : List (Option Tmp)}
theorem chainA_open (L : List Oper) : ∀ (r : List Oper) (posts : List Post), ChainA P Q W a0 ds L r posts →
    ∃ all : List Post, all.length = posts.length + r.length ∧ all.take posts.length = posts ∧
      (∀ (i : Nat) (o : Oper), r[i]? = some o → good P Q W a0 ds all (posts.length + i) o) ∧
      (∀ (us : Nat → Value) (w : World), allPosts us w 0 all → Dist us L → Below W.heap.size W w → Q .normal (putsFrom us 0 ds a0) w) := by
  intro r
  induction r with
  | nil => intro posts h; exact ⟨posts, by simp, by simp, fun i o hi => by simp at hi, h⟩
  | cons o r ih =>
    intro posts h
    obtain ⟨p, hs, hop, hr⟩ := h
    obtain ⟨all, hl, ht, hg, hf⟩ := ih _ hr
    have hlp : (posts ++ [p]).length = posts.length + 1 := by simp
    rw [hlp] at hl ht hg
    have htake : all.take posts.length = posts := by
      have := congrArg (List.take posts.length) ht
      rw [List.take_take, List.take_left] at this
      rwa [Nat.min_eq_left (by omega)] at this
    have hp : all[posts.length]? = some p := by
      have h1 : (all.take (posts.length + 1))[posts.length]? = some p := by rw [ht]; simp
      rw [List.getElem?_take, if_pos (by omega)] at h1
      exact h1
    refine ⟨all, by simp at hl ⊢; omega, htake, ?_, hf⟩
    intro i o' hi
    cases i with
    | zero =>
      simp at hi; subst hi
      refine ⟨p, by simpa using hp, hs, ?_⟩
      rw [Nat.add_zero, htake]; exact hop
    | succ i =>
      have := hg i o' (by simpa using hi)
      rwa [show posts.length + 1 + i = posts.length + (i + 1) from by omega] at this

theorem chainA_is {L : List Oper} {o : Oper} {r : List Oper} {posts : List Post} (v : Value) (hw : wantedBy posts o) (h : opOk P Q W a0 ds posts o (Is v)) (hr : ChainA P Q W a0 ds L r (posts ++ [Is v])) : ChainA P Q W a0 ds L (o :: r) posts :=
  ⟨Is v, Is.stable v, .inl ⟨hw, h⟩, hr⟩
theorem chainA_skip {L : List Oper} {o : Oper} {r : List Oper} {posts : List Post} (hu : unwantedBy posts o) (hr : ChainA P Q W a0 ds L r (posts ++ [Is undef])) : ChainA P Q W a0 ds L (o :: r) posts :=
  ⟨Is undef, Is.stable undef, .inr ⟨hu, fun _ => rfl⟩, hr⟩
theorem chainA_any {L : List Oper} {o : Oper} {r : List Oper} {posts : List Post} (p : Post) (hs : Stable p) (hw : wantedBy posts o) (h : opOk P Q W a0 ds posts o p) (hr : ChainA P Q W a0 ds L r (posts ++ [p])) : ChainA P Q W a0 ds L (o :: r) posts :=
  ⟨p, hs, .inl ⟨hw, h⟩, hr⟩
theorem wp_region_tail_at {Qf : Exit → Act → World → Prop} {L : List Oper} {id : Nat} {w : World} (n : Nat) (hds : (L.take n).map (·.dst) = ds) (hm : P.follows .mixedOrders = true)
    (hok : okFrom (L.take n) a0.tmps.size 0 (L.take n) = true) (hback : backB 0 (L.take n) = true)
    (hs : Region.sinkB .any L.toArray (L.take n).length = true) (hc : Region.chainB .any L.toArray (L.take n).length = true) (htl : 0 < (L.drop n).length)
    (hseq : Region.seqB .any L.toArray (L.drop n).length (L.take n).length ((List.replicate (L.take n).length true ++ List.replicate (L.drop n).length false).toArray) = true)
    (h : ChainA P (TailQ P L.toArray (L.drop n) Qf) w a0 ds (L.take n) (L.take n) []) : (Code.region id L.toArray true).wp P Qf a0 w := by
  have e := List.take_append_drop n L
  generalize L.take n = l at *
  generalize L.drop n = tl at *
  subst e
  obtain ⟨all, hl, _, hg, hf⟩ := chainA_open l l [] h
  refine wp_region_any hm ?_
  have H := main_any (P := P) (Q := TailQ P (l ++ tl).toArray tl Qf) (W := w) (a0 := a0) (all := all) hds (by simpa using hl) (fun i o hi => by simpa using okFrom_at l 0 hok i o hi) (fun i o hi => by simpa using hg i o hi) hf
    l.length (Array.replicate l.length false) a0 { w with drawn := w.drawn + 1 } ?_ (by simp)
  · have := any_of_head (F := Array.replicate (l.length + tl.length) false) (fun h => h) hback hs hc htl hseq l.length (Array.replicate l.length false) a0 { w with drawn := w.drawn + 1 } (by simp) (by simp)
      (fun i hi => by rw [getD_replicate_false, getD_replicate_false]) (fun t h1 h2 => by rw [Array.getD_eq_getD_getElem?, Array.getElem?_eq_getElem (by simpa using h2)]; simp)
      (fun j o _ hl' => by rw [getD_replicate_false] at hl'; cases hl') (by simp) H
    simpa using this
  · refine ⟨by simp, rfl, rfl, (Below.refl _ _).drew, ?_, fun t _ => rfl, ?_, ?_, ?_⟩
    · intro i o _ hl'
      rw [getD_replicate_false] at hl'; cases hl'
    · intro j o p t _ _ hl' _
      rw [getD_replicate_false] at hl'; cases hl'
    · intro j o t _ _ hl' _
      rw [getD_replicate_false] at hl'; cases hl'
    · intro i j oi oj ti tj _ _ _ _ _ hl' _ _ _
      rw [getD_replicate_false] at hl'; cases hl'
end
end Go.ConflA
