/- A region that leaves its order open at its head and ends in a tail of one forced order (stores): the head by Go.Confl, then the tail, operation by operation. -/
import Derived.Test.YtjbkeipagdmlpaaConfl
import Derived.StillTail
namespace Go.Confl
open Go.RowKit
/-- What is asked at the head's end: the tail's walk. -/
def TailQ (P : Program) (full : Array Oper) (tl : List Oper) (Q : Exit → Act → World → Prop) : Exit → Act → World → Prop
  | .normal, a, w => wpList P full Q tl a w
  | e, a, w => Q e a w
theorem wp_tail {P : Program} {full : Array Oper} {tl : List Oper} {Q : Exit → Act → World → Prop} {o : Oper} {a : Act} {w : World} {K K' : Act → World → Prop}
    (hL : LetsOut (TailQ P full tl Q) → LetsOut Q) (h : ∀ a w, K a w → K' a w) (hh : o.wp P a w K (TailQ P full tl Q)) : o.wp P a w K' Q := by
  unfold Oper.wp at *
  generalize (execOp a.eval o).run P w = r at *
  cases r with
  | ok n w' =>
    cases n <;> simp only [Oper.upon] at hh ⊢ <;>
      first
        | exact h _ _ hh
        | exact Calls.mono hh (fun e w'' he => by cases e <;> first | exact h _ _ he | exact hL he | exact he)
        | exact Rows.mono hh (fun _ _ he => h _ _ he)
  | halt x w' => cases x <;> simp only [Oper.upon] at hh ⊢ <;> exact hh

section
variable {P : Program} {Q : Exit → Act → World → Prop} {l tl : List Oper}
/-- The head's edges lead back, and so do its guards. -/
def backB : Nat → List Oper → Bool
  | _, [] => true
  | i, o :: r => (o.after.all fun e => !Region.binds .any e || decide (e.on < i)) && (match o.guard with | none => true | some (j, _) => decide (j < i)) && backB (i + 1) r
theorem backB_at : ∀ (r : List Oper) (k : Nat), backB k r = true → ∀ (i : Nat) (o : Oper), r[i]? = some o →
    (∀ e ∈ o.after, Region.binds .any e = true → e.on < k + i) ∧ ∀ j want, o.guard = some (j, want) → j < k + i
  | [], _, _, i, o, h => by simp at h
  | x :: r, k, hk, i, o, h => by
    simp only [backB, Bool.and_eq_true] at hk
    cases i with
    | zero =>
      simp at h; subst h
      refine ⟨fun e he hb => ?_, fun j want hg => ?_⟩
      · have := (Array.all_eq_true'.1 hk.1.1) e he
        simpa [hb] using this
      · have := hk.1.2
        rw [hg] at this
        simpa using this
    | succ i =>
      have := backB_at r (k + 1) hk.2 i o (by simpa using h)
      rwa [show k + 1 + i = k + (i + 1) from by omega] at this

theorem any_of_head (hL : LetsOut (TailQ P (l ++ tl).toArray tl Q) → LetsOut Q) (hback : backB 0 l = true) (hs : Region.sinkB .any (l ++ tl).toArray l.length = true) (hc : Region.chainB .any (l ++ tl).toArray l.length = true) (htl : 0 < tl.length)
    (hseq : Region.seqB .any (l ++ tl).toArray tl.length l.length ((List.replicate l.length true ++ List.replicate tl.length false).toArray) = true) :
    ∀ (fuel : Nat) (H F : Array Bool) (a : Act) (w : World), H.size = l.length → F.size = l.length + tl.length → (∀ i, i < l.length → F.getD i false = H.getD i false) → (∀ t, l.length ≤ t → t < l.length + tl.length → F.getD t true = false) →
      (∀ j o, l[j]? = some o → H.getD j false = true → ∀ e ∈ o.after, Region.binds .any e = true → H.getD e.on false = true) →
      H.toList.count false = fuel → wpAny P .any l.toArray (TailQ P (l ++ tl).toArray tl Q) fuel H a w → wpAny P .any (l ++ tl).toArray Q (fuel + tl.length) F a w := by
  have hget : ∀ i, i < l.length → (l ++ tl).toArray[i]? = l.toArray[i]? := fun i hi => by
    rw [List.getElem?_toArray, List.getElem?_toArray, List.getElem?_append_left hi]
  have hgd : ∀ (b : Array Bool) (i : Nat), i < b.size → b.getD i true = b.getD i false := fun b i hi => by
    rw [Array.getD_eq_getD_getElem?, Array.getD_eq_getD_getElem?, Array.getElem?_eq_getElem hi]; rfl
  have hn : l.length < (l ++ tl).toArray.size := by simp; omega
  intro fuel
  induction fuel with
  | zero =>
    intro H F a w hH hF hagree htail hclosed hcount hw
    have hfull : ∀ i, i < l.length → H.getD i false = true := fun i hi => by
      cases hb : H.getD i false with
      | true => rfl
      | false =>
        exfalso
        have hi' : i < H.size := by rw [hH]; exact hi
        rw [Array.getD_eq_getD_getElem?, Array.getElem?_eq_getElem hi'] at hb
        simp only [Option.getD_some] at hb
        have : false ∈ H.toList := by rw [← hb]; simp
        have := List.count_pos_iff.2 this
        omega
    have hFe : F = (List.replicate l.length true ++ List.replicate tl.length false).toArray := by
      apply Array.ext
      · simp [hF]
      · intro i h1 h2
        have e : F[i] = F.getD i false := by rw [Array.getD_eq_getD_getElem?, Array.getElem?_eq_getElem h1]; rfl
        rw [e]
        by_cases hi : i < l.length
        · rw [hagree i hi, hfull i hi]
          simp [hi]
        · have h3 := htail i (by omega) (by omega)
          rw [hgd F i h1] at h3
          rw [h3]
          simp [List.getElem_append, hi]
    rw [Nat.zero_add]
    refine wpAny_of_seq tl l.length F a w (fun j => ?_) (by rw [hFe]; exact hseq) ?_
    · rw [List.getElem?_toArray, List.getElem?_append_right (by omega), Nat.add_sub_cancel_left]
    · exact hw.2
  | succ fuel ih =>
    intro H F a w hH hF hagree htail hclosed hcount hw
    have hun : ∃ i, i < l.length ∧ H.getD i false = false := by
      have hmem : false ∈ H.toList := List.count_pos_iff.1 (by omega)
      obtain ⟨i, hi, he⟩ := List.getElem_of_mem hmem
      refine ⟨i, by rw [← hH]; simpa using hi, ?_⟩
      rw [Array.getD_eq_getD_getElem?, Array.getElem?_eq_getElem (by simpa using hi)]
      simpa using he
    have hinv : HeadInv .any (l ++ tl).toArray l.length F := by
      refine ⟨by simp [hF], ?_, fun t h1 h2 => htail t h1 (by simpa using h2)⟩
      intro j oj hj hl e he hb
      have hjl : j < l.length := by
        rcases Nat.lt_or_ge j l.length with h | h
        · exact h
        · exfalso
          have hlt : j < l.length + tl.length := by
            have := (Array.getElem?_eq_some_iff.1 hj).1
            simpa using this
          have h3 := htail j h hlt
          rw [hgd F j (by omega)] at h3
          rw [h3] at hl; cases hl
      rw [hget j hjl, List.getElem?_toArray] at hj
      have hon := (backB_at l 0 hback j oj hj).1 e he hb
      rw [hagree j hjl] at hl
      rw [hagree e.on (by omega)]
      exact hclosed j oj hj hl e he hb
    have hready : ∀ i, i ∈ Region.ready .any (l ++ tl).toArray F → i < l.length ∧ i ∈ Region.ready .any l.toArray H := by
      intro i hi
      have hil : i < l.length := by
        rcases Nat.lt_or_ge i l.length with h | h
        · exact h
        · exfalso
          obtain ⟨k, hk, hku⟩ := hun
          exact tail_waits hs hc hn hinv _ k rfl hk (by rw [hgd F k (by omega), hagree k hk]; exact hku) i h hi
      refine ⟨hil, ?_⟩
      obtain ⟨h1, o, ho, h2⟩ := mem_ready.1 hi
      rw [hget i hil] at ho
      refine mem_ready.2 ⟨?_, o, ho, fun e he hb => ?_⟩
      · rw [hgd F i (by omega), hagree i hil] at h1
        rw [hgd H i (by omega)]; exact h1
      · have hon := (backB_at l 0 hback i o (by rw [← List.getElem?_toArray]; exact ho)).1 e he hb
        rw [← hagree e.on (by omega)]
        exact h2 e he hb
    have hready' : ∀ i, i < l.length → H.getD i false = false → (∀ j, j < i → H.getD j false = true) → i ∈ Region.ready .any (l ++ tl).toArray F := by
      intro i hi hu hmin
      refine mem_ready.2 ⟨by rw [hgd F i (by omega), hagree i hi]; exact hu, l[i], by rw [hget i hi, List.getElem?_toArray, List.getElem?_eq_getElem hi], fun e he hb => ?_⟩
      have hon := (backB_at l 0 hback i l[i] (List.getElem?_eq_getElem hi)).1 e he hb
      rw [hagree e.on (by omega)]
      exact hmin _ (by omega)
    have hne : Region.ready .any (l ++ tl).toArray F ≠ [] := by
      obtain ⟨k, hk, hku⟩ := hun
      have : ∃ i, i < l.length ∧ H.getD i false = false ∧ ∀ j, j < i → H.getD j false = true := by
        revert hk hku
        induction k using Nat.strongRecOn with
        | _ k ihk =>
          intro hk hku
          by_cases hex : ∃ j, j < k ∧ H.getD j false = false
          · obtain ⟨j, hj, hju⟩ := hex
            exact ihk j hj (by omega) hju
          · refine ⟨k, hk, hku, fun j hj => ?_⟩
            cases hb : H.getD j false with
            | true => rfl
            | false => exact absurd ⟨j, hj, hb⟩ hex
      obtain ⟨i, h1, h2, h3⟩ := this
      intro he
      have := hready' i h1 h2 h3
      rw [he] at this
      cases this
    rw [show fuel + 1 + tl.length = fuel + tl.length + 1 from by omega]
    refine ⟨fun he => absurd he hne, fun i hi => ?_⟩
    obtain ⟨hil, hiH⟩ := hready i hi
    have hop := hw.2 i hiH
    obtain ⟨hu1, o, ho, hdeps⟩ := mem_ready.1 hiH
    have hoF := hget i hil
    have hK : ∀ (a' : Act) (w' : World), wpAny P .any l.toArray (TailQ P (l ++ tl).toArray tl Q) fuel (H.setIfInBounds i true) a' w' → wpAny P .any (l ++ tl).toArray Q (fuel + tl.length) (F.setIfInBounds i true) a' w' := by
      intro a' w' h'
      refine ih _ _ a' w' (by simp [hH]) (by simp [hF]) (fun j hj => ?_) (fun t h1 h2 => ?_) ?_ ?_ h'
      · by_cases e : i = j
        · subst e
          rw [Array.getD_eq_getD_getElem?, Array.getD_eq_getD_getElem?, Array.getElem?_setIfInBounds_self_of_lt (by omega), Array.getElem?_setIfInBounds_self_of_lt (by omega)]
        · rw [getD_set_ne false e, getD_set_ne false e]; exact hagree j hj
      · rw [getD_set_ne true (by omega)]; exact htail t h1 h2
      · intro j oj hj hl e he hb
        by_cases ej : i = j
        · subst ej
          rw [List.getElem?_toArray] at ho
          rw [ho] at hj; cases hj
          exact getD_set_true (hdeps e he hb)
        · rw [getD_set_ne false ej] at hl
          exact getD_set_true (hclosed j oj hj hl e he hb)
      · have hi' : i < H.size := by rw [hH]; exact hil
        have hf : H[i] = false := by
          rw [hgd H i hi'] at hu1
          rw [Array.getD_eq_getD_getElem?, Array.getElem?_eq_getElem hi'] at hu1
          simpa using hu1
        rw [Array.toList_setIfInBounds, List.count_set (by simpa using hi')]
        simp only [Array.getElem_toList, hf]
        rw [if_pos (by rfl), if_neg (by decide)]
        omega
    unfold wpOp at hop ⊢
    rw [hoF]
    rw [ho] at hop ⊢
    simp only at hop ⊢
    have hwd : Region.wanted o (yielded (l ++ tl).toArray a.tmps) = Region.wanted o (yielded l.toArray a.tmps) := by
      unfold Region.wanted
      cases hg : o.guard with
      | none => rfl
      | some g =>
        obtain ⟨j, want⟩ := g
        have hj := (backB_at l 0 hback i o (by rw [← List.getElem?_toArray]; exact ho)).2 j want hg
        simp only [yielded, hget j (by omega)]
    rw [hwd]
    by_cases hwt : Region.wanted o (yielded l.toArray a.tmps) = true
    · rw [if_pos hwt] at hop ⊢
      rcases hop with hop | ⟨h1, h2⟩
      · exact .inl (wp_tail hL hK hop)
      · exact .inr ⟨h1, hL h2⟩
    · rw [if_neg hwt] at hop ⊢
      exact hK _ _ hop
end

/-- THE RULE: the head in any order, then the tail. -/
theorem wp_region_confl_tail {P : Program} {Q : Exit → Act → World → Prop} {a0 : Act} {l tl : List Oper} {ds : List (Option Tmp)} {id : Nat} {w : World} (hds : l.map (·.dst) = ds) (hm : P.follows .mixedOrders = true)
    (hok : okFrom l a0.tmps.size 0 l = true) (hback : backB 0 l = true)
    (hs : Region.sinkB .any (l ++ tl).toArray l.length = true) (hc : Region.chainB .any (l ++ tl).toArray l.length = true) (htl : 0 < tl.length)
    (hseq : Region.seqB .any (l ++ tl).toArray tl.length l.length ((List.replicate l.length true ++ List.replicate tl.length false).toArray) = true)
    (h : Chain P (TailQ P (l ++ tl).toArray tl Q) w a0 ds l []) : (Code.region id (l ++ tl).toArray true).wp P Q a0 w := by
  obtain ⟨all, hl, _, hg, hf⟩ := chain_open l [] h
  refine wp_region_any hm ?_
  have H := main_any (P := P) (Q := TailQ P (l ++ tl).toArray tl Q) (W := w) (a0 := a0) (all := all) hds (by simpa using hl) (fun i o hi => by simpa using okFrom_at l 0 hok i o hi) (fun i o hi => by simpa using hg i o hi) hf
    l.length (Array.replicate l.length false) a0 { w with drawn := w.drawn + 1 } ?_ (by simp)
  · have := any_of_head (F := Array.replicate (l.length + tl.length) false) (fun h => h) hback hs hc htl hseq l.length (Array.replicate l.length false) a0 { w with drawn := w.drawn + 1 } (by simp) (by simp)
      (fun i hi => by rw [getD_replicate_false, getD_replicate_false]) (fun t h1 h2 => by rw [Array.getD_eq_getD_getElem?, Array.getElem?_eq_getElem (by simpa using h2)]; simp)
      (fun j o _ hl' => by rw [getD_replicate_false] at hl'; cases hl') (by simp) H
    simpa using this
  · refine ⟨by simp, rfl, rfl, (Below.refl _ _).drew, ?_, fun t _ => rfl, ?_⟩
    · intro i o _ hl'
      rw [getD_replicate_false] at hl'; cases hl'
    · intro j o p t _ _ hl' _
      rw [getD_replicate_false] at hl'; cases hl'
end Go.Confl
