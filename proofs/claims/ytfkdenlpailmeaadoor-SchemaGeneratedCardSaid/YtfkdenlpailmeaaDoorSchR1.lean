/- The reference's words of a line: lists of texts in memory; the walk over Words. -/
import Derived.Test.YtfkdenlpailmeaaDoorSchP
import Derived.Laws.AppendOwnNone
namespace Go.SC
open Go.RowKit Go.VB Go.VL
/-- A text divided at single spaces. -/
def spl : List UInt8 → List (List UInt8)
  | [] => [[]]
  | b :: r => if b = 32 then [] :: spl r else match spl r with
    | [] => [[b]]
    | t :: ts => (b :: t) :: ts
theorem spl_ne : ∀ l, spl l ≠ []
  | [] => by simp [spl]
  | b :: r => by
    unfold spl
    split
    · simp
    · split <;> simp
theorem spl_one : ∀ {a : List UInt8}, 32 ∉ a → spl a = [a]
  | [], _ => rfl
  | b :: a, h => by
    have h1 : ¬ b = 32 := fun e => h (by rw [e]; exact List.mem_cons_self ..)
    have h2 := spl_one (a := a) (fun hm => h (List.mem_cons_of_mem _ hm))
    unfold spl
    rw [if_neg h1, h2]
theorem spl_cut : ∀ {a : List UInt8} (r : List UInt8), 32 ∉ a → spl (a ++ 32 :: r) = a :: spl r
  | [], r, _ => by
    show spl (32 :: r) = _
    rw [spl, if_pos rfl]
  | b :: a, r, h => by
    have h1 : ¬ b = 32 := fun e => h (by rw [e]; exact List.mem_cons_self ..)
    have h2 := spl_cut (a := a) r (fun hm => h (List.mem_cons_of_mem _ hm))
    show spl (b :: (a ++ 32 :: r)) = _
    rw [spl, if_neg h1, h2]
theorem spl_nosp : ∀ (l : List UInt8), ∀ a ∈ spl l, 32 ∉ a
  | [], a, h => by
    simp only [spl, List.mem_singleton] at h
    rw [h]; simp
  | b :: r, a, h => by
    have ih := spl_nosp r
    unfold spl at h
    by_cases hb : b = 32
    · rw [if_pos hb] at h
      rcases List.mem_cons.1 h with rfl | h
      · simp
      · exact ih a h
    · rw [if_neg hb] at h
      cases hs : spl r with
      | nil => exact absurd hs (spl_ne r)
      | cons t ts =>
        rw [hs] at h ih
        simp only at h
        rcases List.mem_cons.1 h with rfl | h
        · intro hm
          rcases List.mem_cons.1 hm with e | e
          · exact hb e.symm
          · exact ih t (by simp) e
        · exact ih a (List.mem_cons_of_mem _ h)
/-- Words put together again. -/
def joinW : List (List UInt8) → List UInt8
  | [] => []
  | [a] => a
  | a :: b :: r => a ++ 32 :: joinW (b :: r)
theorem join_spl (l : List UInt8) : joinW (spl l) = l := by
  induction h : l.length using Nat.strongRecOn generalizing l with
  | ind n ih =>
    by_cases hs : 32 ∈ l
    · have : ∃ a r, (32 : UInt8) ∉ a ∧ l = a ++ 32 :: r := by
        clear ih h
        induction l with
        | nil => simp at hs
        | cons x l ihl =>
          by_cases hx : x = 32
          · exact ⟨[], l, by simp, by rw [hx]; rfl⟩
          · rcases List.mem_cons.1 hs with e | e
            · exact absurd e.symm hx
            · obtain ⟨a, r, h1, h2⟩ := ihl e
              refine ⟨x :: a, r, fun hm => ?_, by rw [h2]; rfl⟩
              rcases List.mem_cons.1 hm with e | e
              · exact hx e.symm
              · exact h1 e
      obtain ⟨a, r, ha, rfl⟩ := this
      rw [spl_cut r ha]
      have hr := ih r.length (by rw [← h]; simp; omega) r rfl
      cases hsr : spl r with
      | nil => exact absurd hsr (spl_ne r)
      | cons t ts =>
        rw [hsr] at hr
        show a ++ 32 :: joinW (t :: ts) = _
        rw [hr]
    · rw [spl_one hs]; rfl
/-- The values of a list of texts. -/
def svs (ws : List (List UInt8)) : List Value := ws.map fun a => Value.string (str a)
theorem svs_get (ws : List (List UInt8)) (i : Nat) (h : i < ws.length) : (svs ws)[i]? = some (.string (str (ws.getD i []))) := by
  unfold svs; rw [List.getElem?_map, List.getD_eq_getElem?_getD, List.getElem?_eq_getElem h]; rfl
/-- The slice v is the call's own and holds the texts ws. -/
def OwnS (e : TypeId) (w : World) (base : Nat) (v : Value) (ws : List (List UInt8)) : Prop := w.ownsRow base e 1 v ws.length (svs ws)
theorem OwnS.nil (e : TypeId) (w : World) (base : Nat) : OwnS e w base (.slice none 0 0) [] := World.ownsRow_nil w base e 1
theorem OwnS.alloc {e : TypeId} {w : World} {base : Nat} {v : Value} {ws : List (List UInt8)} (h : OwnS e w base v ws) (o : Obj) : OwnS e (w.alloc o) base v ws := World.ownsRow.alloc h o
theorem OwnS.lt {e : TypeId} {w : World} {base : Nat} {v : Value} {ws : List (List UInt8)} (h : OwnS e w base v ws) : ∀ b, v.ownBlock = some b → base ≤ b ∧ b < w.heap.size := World.ownsRow.lt h
/-- The slice v can be read and holds the texts ws; it lies below block B. -/
def RdS (w : World) (B : Nat) (v : Value) (ws : List (List UInt8)) : Prop :=
  ∃ A c, v = .slice A ws.length c ∧ ws.length ≤ c ∧ c ≤ maxLen ∧ ∀ i, i < ws.length → ∃ ad, A = some ad ∧ ad.block < B ∧ w.cell? (ad.add i) = some (.string (str (ws.getD i [])))
theorem RdS.nil (w : World) (B : Nat) : RdS w B (.slice none 0 0) [] := ⟨none, 0, rfl, Nat.le_refl _, Nat.zero_le _, fun _ hi => absurd hi (Nat.not_lt_zero _)⟩
theorem RdS.below {w w' : World} {B : Nat} {v : Value} {ws : List (List UInt8)} (h : RdS w B v ws) (hb : Below B w w') : RdS w' B v ws := by
  obtain ⟨A, c, hv, hc, hm, hr⟩ := h
  refine ⟨A, c, hv, hc, hm, fun i hi => ?_⟩
  obtain ⟨ad, h1, h2, h3⟩ := hr i hi
  exact ⟨ad, h1, h2, (hb.cell (by rw [block_add]; exact h2)).trans h3⟩
theorem RdS.more {w : World} {B B' : Nat} {v : Value} {ws : List (List UInt8)} (h : RdS w B v ws) (hB : B ≤ B') : RdS w B' v ws := by
  obtain ⟨A, c, hv, hc, hm, hr⟩ := h
  refine ⟨A, c, hv, hc, hm, fun i hi => ?_⟩
  obtain ⟨ad, h1, h2, h3⟩ := hr i hi
  exact ⟨ad, h1, by omega, h3⟩
theorem RdS.step {w w' : World} {v : Value} {ws : List (List UInt8)} (h : RdS w w.heap.size v ws) (hb : Below w.heap.size w w') : RdS w' w'.heap.size v ws := (h.below hb).more hb.size
theorem OwnS.read {e : TypeId} {w : World} {base : Nat} {v : Value} {ws : List (List UInt8)} (h : OwnS e w base v ws) : RdS w w.heap.size v ws := by
  have hlt := h.lt
  rcases h.2 with ⟨rfl, hn⟩ | ⟨g, c, cur, rfl, _, _, h3, h4, _⟩
  · have := List.eq_nil_of_length_eq_zero hn
    subst this
    exact RdS.nil _ _
  · refine ⟨some ⟨g, 0, none⟩, c, rfl, h3, h4, fun i hi => ⟨_, rfl, (hlt g rfl).2, ?_⟩⟩
    exact World.ownsRow.cells h (g := g) rfl i _ (svs_get ws i hi)
/-- append of one text. -/
theorem wpl_appS {P : Program} {w : World} {ops : Array Oper} {rest : List Oper} {o : Oper} {a : Act} {Q : Exit → Act → World → Prop} (hgd : o.guard = none) (s x : Operand) (t : TypeId)
    (ho : o.op = .call { callee := .builtin .append, args := #[s, x], argTypes := #[t, t] })
    (base : Nat) (e : TypeId) (ht : P.underlying t = some (.slice e)) (hinfo : (P.info? e).map (fun i => (i.zero, i.size, i.bytes)) = some (some (.string ⟨#[]⟩), 1, 16))
    (v : Value) (ws : List (List UInt8)) (hs : a.eval s = v) (hown : OwnS e w base v ws)
    (g : Nat) (m : Nat) (c : List UInt8) (hx : a.eval x = .slice (some ⟨g, 0, none⟩) 1 m) (hcell : w.cell? ⟨g, 0, none⟩ = some (.string (str c)))
    (hlen : ws.length < 1000000) (hbase : base ≤ w.heap.size)
    (h : ∀ v' w', OwnS e w' base v' (ws ++ [c]) → Below base w w' → wpList P ops Q rest (a.put o.dst v') w') : wpList P ops Q (o :: rest) a w := by
  obtain ⟨i, hi, hz, hsz, hby⟩ := info_parts hinfo
  refine wpList_append_own w hgd s x t ho base e i (.string ⟨#[]⟩) 1 16 ht hi hz hsz hby rfl (by decide) v ws.length (svs ws) hs hown ⟨g, 0, none⟩ 1 m [.string (str c)] hx rfl ?_ ?_ ?_ ?_ hbase ?_
  · intro j u hj
    match j, hj with
    | 0, hj => simp at hj; subst hj; simpa [Addr.add] using hcell
  · intro u hu; simp at hu; subst hu; rfl
  · unfold maxLen; omega
  · omega
  · intro v' w' ho' hg _
    refine h v' w' ?_ ?_
    · unfold OwnS
      rw [List.length_append, show svs (ws ++ [c]) = svs ws ++ [.string (str c)] from by unfold svs; simp]
      exact ho'
    · exact (Below.refl _ _).grown hg hbase (fun k hk => (OwnS.lt hown k hk).1)
/-- What Words leaves. -/
def PWd (T : TypeId) (l : List UInt8) (w : World) : Ending → World → Prop := fun e w' => Below w.heap.size w w' ∧
  ((∃ v, [] ∉ spl l ∧ e = .returned (.tuple #[v, .bool true]) ∧ OwnS T w' w.heap.size v (spl l)) ∨ ([] ∈ spl l ∧ e = .returned (.tuple #[.slice none 0 0, .bool false])))
/-- How far Words has come: the words ws, the rest begins at from, no space up to i. -/
def WAt (l : List UInt8) (ws : List (List UInt8)) (fr i : Nat) : Prop :=
  [] ∉ ws ∧ ((fr ≤ i ∧ i ≤ l.length ∧ spl l = ws ++ spl (l.drop fr) ∧ 32 ∉ (l.drop fr).take (i - fr)) ∨ (i = l.length + 1 ∧ spl l = ws))
theorem WAt.start (l : List UInt8) : WAt l [] 0 0 := ⟨by simp, .inl ⟨Nat.le_refl _, Nat.zero_le _, rfl, by simp⟩⟩
theorem drop_get {l : List UInt8} {i : Nat} (h : i < l.length) : l.drop i = l.getD i 0 :: l.drop (i + 1) := by
  rw [List.drop_eq_getElem_cons h, List.getD_eq_getElem?_getD, List.getElem?_eq_getElem h]; rfl
theorem take_drop_snoc {l : List UInt8} {fr i : Nat} (h : fr ≤ i) (hi : i < l.length) : (l.drop fr).take (i + 1 - fr) = (l.drop fr).take (i - fr) ++ [l.getD i 0] := by
  rw [show i + 1 - fr = (i - fr) + 1 from by omega, List.take_add_one, List.getElem?_drop, show fr + (i - fr) = i from by omega, List.getD_eq_getElem?_getD, List.getElem?_eq_getElem hi]; rfl
theorem WAt.on {l : List UInt8} {ws : List (List UInt8)} {fr i : Nat} (h : WAt l ws fr i) (hi : i < l.length) (hb : l.getD i 0 ≠ 32) : WAt l ws fr (i + 1) := by
  obtain ⟨h0, h⟩ := h
  rcases h with ⟨h1, h2, h3, h4⟩ | ⟨h1, _⟩
  · refine ⟨h0, .inl ⟨by omega, hi, h3, ?_⟩⟩
    rw [take_drop_snoc h1 hi]
    intro hm
    rcases List.mem_append.1 hm with e | e
    · exact h4 e
    · exact hb (List.mem_singleton.1 e).symm
  · omega
theorem WAt.word {l : List UInt8} {ws : List (List UInt8)} {fr i : Nat} (h : WAt l ws fr i) (hi : i ≤ l.length) (hb : i < l.length → l.getD i 0 = 32) :
    spl l = ws ++ (l.drop fr).take (i - fr) :: (if i < l.length then spl (l.drop (i + 1)) else []) := by
  obtain ⟨h0, h⟩ := h
  rcases h with ⟨h1, h2, h3, h4⟩ | ⟨h1, _⟩
  · rw [h3]
    congr 1
    by_cases hlt : i < l.length
    · rw [if_pos hlt]
      have e : l.drop fr = (l.drop fr).take (i - fr) ++ 32 :: l.drop (i + 1) := by
        conv => lhs; rw [← List.take_append_drop (i - fr) (l.drop fr)]
        rw [List.drop_drop, show fr + (i - fr) = i from by omega, drop_get hlt, hb hlt]
      conv => lhs; rw [e]
      exact spl_cut _ h4
    · rw [if_neg hlt]
      have e : (l.drop fr).take (i - fr) = l.drop fr := List.take_of_length_le (by rw [List.length_drop]; omega)
      rw [e] at h4 ⊢
      exact spl_one h4
  · omega
theorem WAt.empty {l : List UInt8} {ws : List (List UInt8)} {i : Nat} (h : WAt l ws i i) (hi : i ≤ l.length) (hb : i < l.length → l.getD i 0 = 32) : [] ∈ spl l := by
  rw [h.word hi hb]; simp
theorem WAt.next {l : List UInt8} {ws : List (List UInt8)} {fr i : Nat} (h : WAt l ws fr i) (hi : i ≤ l.length) (hb : i < l.length → l.getD i 0 = 32) (hne : ¬ i = fr) : WAt l (ws ++ [(l.drop fr).take (i - fr)]) (i + 1) (i + 1) := by
  have hw := h.word hi hb
  obtain ⟨h0, h⟩ := h
  rcases h with ⟨h1, h2, h3, h4⟩ | ⟨h1, _⟩
  · refine ⟨?_, ?_⟩
    · intro hm
      rcases List.mem_append.1 hm with e | e
      · exact h0 e
      · have := congrArg List.length (List.mem_singleton.1 e)
        simp at this; omega
    · by_cases hlt : i < l.length
      · rw [if_pos hlt] at hw
        refine .inl ⟨Nat.le_refl _, hlt, ?_, by simp⟩
        rw [hw]; simp
      · rw [if_neg hlt] at hw
        exact .inr ⟨by omega, hw⟩
  · omega
theorem WAt.done {l : List UInt8} {ws : List (List UInt8)} {fr i : Nat} (h : WAt l ws fr i) (hi : ¬ i ≤ l.length) : spl l = ws ∧ [] ∉ spl l := by
  obtain ⟨h0, h⟩ := h
  rcases h with ⟨h1, h2, h3, h4⟩ | ⟨_, h2⟩
  · omega
  · exact ⟨h2, by rw [h2]; exact h0⟩
theorem WAt.len {l : List UInt8} {ws : List (List UInt8)} {fr i : Nat} (h : WAt l ws fr i) : fr ≤ i ∨ i = l.length + 1 := by
  rcases h.2 with h | h
  · exact .inl h.1
  · exact .inr h.1
theorem cut_piece (l : List UInt8) (fr i : Nat) : (str l).extract fr i = str ((l.drop fr).take (i - fr)) := by rw [extract_str, str_toList]
end Go.SC
namespace Go.Proofs.YtfkdenlpailmeaaDoor
open Go.RowKit Go.VB Go.VL Go.SC
set_option linter.constructorNameAsVariable false
end Go.Proofs.YtfkdenlpailmeaaDoor
