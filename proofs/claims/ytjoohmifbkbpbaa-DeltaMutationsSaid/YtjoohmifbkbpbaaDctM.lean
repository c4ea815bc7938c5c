/- Rows of texts: an append as a step of a region, slices of texts that come in, what the functions of package dict return. -/
import Derived.Test.YtjoohmifbkbpbaaDct2
import Derived.Test.YtjoohmifbkbpbaaRleM
import Derived.Test.YtjoohmifbkbpbaaBitW6
import Derived.Deep.Strs
import Derived.Deep.RegionWith
import Derived.Deep.RegionLaw
import Derived.StillTailTactics
namespace Go.VB
open Go.RowKit Go.ChangeShapes Go.WideShapes Go.ChangeAt
/-- append(s, x...) onto a row of the call's own, as one step of a region that draws. -/
theorem step_appV {α : Type} {f : α → Value} {P : Program} {ops : Array Oper} {o : Oper} {a : Act} {w : World} {K : Act → World → Prop} {Q : Exit → Act → World → Prop} {E : Prop} (hone : ∀ x : α, (f x).oneCell' = true) (z : Value) (hz1 : z.cells.size = 1)
    (hg : o.guard = none) (s x : Operand) (t : TypeId) (hop : o.op = Op.call { callee := Callee.builtin Builtin.append, args := #[s, x], argTypes := #[t, t] })
    (base : Nat) (e : TypeId) (bytes : Nat) (ht : P.underlying t = some (.slice e)) (hinfo : (P.info? e).map (fun i => (i.zero, i.size, i.bytes)) = some (some z, 1, bytes))
    (v : Value) (l : List α) (hs : a.eval s = v) (hown : OwnV f e w base v l) (B : Nat) (vx : Value) (y : α) (hx : a.eval x = vx) (hr : RdV f w B vx [y])
    (hlen : l.length + 1 ≤ maxLen) (hbytes : (l.length + 1) * bytes ≤ 140737488355328) (hbase : base ≤ w.heap.size)
    (hK : ∀ v' w', OwnV f e w' base v' (l ++ [y]) → Below base w w' → w.grownBy w' v.ownBlock → K (a.put o.dst v') w') :
    if Region.wanted o (yielded ops a.tmps) = true then Oper.wp P o a w K Q else E := by
  have hw : Region.wanted o (yielded ops a.tmps) = true := by simp [Region.wanted, hg]
  rw [if_pos hw]
  obtain ⟨i, hi, hz, hsz, hby⟩ := info_parts hinfo
  obtain ⟨A, c, rfl, hc, hm, hcell⟩ := hr
  obtain ⟨ad, rfl, _, _⟩ := hcell 0 y rfl
  obtain ⟨v', w', hrun, r1, r2, _⟩ := run_append_own (P := P) w base t o.type e i z 1 bytes ht hi hz hsz hby hz1 (by decide) v l.length (l.map f) hown ad 1 c [f y] rfl
    (fun j u hj => by
      obtain ⟨hj1, he⟩ := List.getElem?_eq_some_iff.1 hj
      have hj0 : j = 0 := by simp at hj1; exact hj1
      subst hj0
      obtain ⟨ad', h1, _, h3⟩ := hcell 0 y rfl
      cases h1
      rw [h3]; simpa using he)
    (fun u hu => by rw [List.mem_singleton.1 hu]; exact hone y) hlen hbytes hbase
  unfold Oper.wp
  simp [execOp, hop, resolve, invoke, builtin, hs, hx, hrun, Result.andThen]
  refine hK v' w' ?_ ((Below.refl _ _).grown r2 hbase (fun b hb => (OwnV.lt hown b hb).1)) r2
  unfold OwnV
  rw [List.length_append, List.map_append]
  exact r1
/-- make([]T, 0, n). -/
theorem run_makeV0 {P : Program} {t e : TypeId} {bytes : Nat} {z : Value} (hz1 : z.cells = #[z]) (ht : P.underlying t = some (.slice e)) (hinfo : (P.info? e).map (fun i => (i.zero, i.size, i.bytes)) = some (some z, 1, bytes))
    (n : Nat) (hb : bytes * n ≤ 281474976710656) (hm : n ≤ maxLen) (w : World) :
    (Instr.makeSlice t (.int .i64 0) (.int .i64 (n : Int))).run P w = .ok (.slice (some ⟨w.heap.size, 0, none⟩) 0 n) (w.alloc (.cells (madeCells #[z] n) e)) := by
  obtain ⟨i, hi, hz, hsz, hby⟩ := info_parts hinfo
  unfold maxLen at hm
  have h := run_make (P := P) w t e i z ht hi hz .i64 .i64 0 n (by omega) (by omega) (by rw [hby, ← Int.natCast_mul]; omega) (by omega)
  rw [Int.toNat_natCast, hsz, Nat.mul_one, hz1] at h
  exact h
/-- The length of a slice. -/
def lenS : Value → Nat
  | .slice _ n _ => n
  | _ => 0
theorem RdV.len {α : Type} {f : α → Value} {w : World} {B : Nat} {v : Value} {l : List α} (h : RdV f w B v l) : lenS v = l.length := by
  obtain ⟨A, c, rfl, _⟩ := h; rfl
theorem RdV.block {α : Type} {f : α → Value} {w : World} {B c n : Nat} {ad : Addr} {l : List α} (h : RdV f w B (.slice (some ad) n c) l) (hl : l ≠ []) : ad.block < B := by
  obtain ⟨A, c', hv, _, _, hr⟩ := h
  cases hv
  cases l with
  | nil => exact absurd rfl hl
  | cons x l => obtain ⟨ad', h1, h2, _⟩ := hr 0 x rfl; cases h1; exact h2
theorem RdV.at {α : Type} {f : α → Value} {w : World} {B c n : Nat} {A : Option Addr} {l : List α} (h : RdV f w B (.slice A n c) l) {i : Nat} {x : α} (hx : l[i]? = some x) : ∃ ad, A = some ad ∧ ad.block < B ∧ w.cell? (ad.add i) = some (f x) := by
  obtain ⟨A', c', hv, _, _, hr⟩ := h
  cases hv
  exact hr i x hx
theorem RdV.bds {α : Type} {f : α → Value} {w : World} {B : Nat} {v : Value} {l : List α} (h : RdV f w B v l) : ∃ A c n, v = .slice A n c ∧ n = l.length ∧ n ≤ c ∧ c ≤ 9223372036854775807 := by
  obtain ⟨A, c, rfl, h1, h2, _⟩ := h
  exact ⟨A, c, _, rfl, rfl, h1, h2⟩
/-- l[1:], as the walk spells it. -/
theorem RdV.tail1 {α : Type} {f : α → Value} {w : World} {B c n : Nat} {ad : Addr} {x : α} {l : List α} (h : RdV f w B (.slice (some ad) n c) (x :: l)) : RdV f w B (.slice (if c = 1 then some ad else some ⟨ad.block, ad.off + 1, none⟩) (n - 1) (c - 1)) l := by
  obtain ⟨A', c', hv, hc, hm, _⟩ := id h
  cases hv
  have ht := h.tail 1 (by simp)
  by_cases h1 : c = 1
  · have hl : l = [] := by simp at hc; exact List.eq_nil_of_length_eq_zero (by omega)
    subst hl
    rw [if_pos h1]
    exact ⟨_, _, rfl, by simp, by omega, fun i x hi => by simp at hi⟩
  · rw [if_neg h1]
    exact ht
theorem RdV.tailA {α : Type} {f : α → Value} {w : World} {B c n : Nat} {ad : Addr} {x : α} {l : List α} (h : RdV f w B (.slice (some ad) n c) (x :: l)) (hc : c = 1) : RdV f w B (.slice (some ad) (n - 1) 0) l := by
  subst hc; exact h.tail1
theorem RdV.tailB {α : Type} {f : α → Value} {w : World} {B c n : Nat} {ad : Addr} {x : α} {l : List α} (h : RdV f w B (.slice (some ad) n c) (x :: l)) (hc : ¬ c = 1) : RdV f w B (.slice (some ⟨ad.block, ad.off + 1, none⟩) (n - 1) (c - 1)) l := by
  have := h.tail1
  rwa [if_neg hc] at this
/-- []T{}. -/
theorem OwnV.empty {α : Type} (f : α → Value) (e : TypeId) (w : World) (base c : Nat) (hb : base ≤ w.heap.size) (cur : Array Value) (hc : cur.size = c) (hm : c ≤ maxLen) : OwnV f e (w.alloc (.cells cur e)) base (.slice (some ⟨w.heap.size, 0, none⟩) 0 c) [] :=
  World.ownsRow_made w cur c hb hm (by rw [hc, Nat.mul_one])
/-- It returns two lists; what was there is as it was. -/
def Ret2 {α β : Type} (f : α → Value) (g : β → Value) (l : List α) (m : List β) (w : World) : Ending → World → Prop := fun en w' =>
  ∃ v u, en = .returned (.tuple #[v, u]) ∧ RdV f w' w'.heap.size v l ∧ RdV g w' w'.heap.size u m ∧ Below w.heap.size w w'
theorem Ret2.mk {α β : Type} {f : α → Value} {g : β → Value} {l : List α} {m : List β} {w w' : World} {x v u : Value} (hx : x = .tuple #[v, u]) (hv : RdV f w' w'.heap.size v l) (hu : RdV g w' w'.heap.size u m) (hb : Below w.heap.size w w') : Ret2 f g l m w (.returned x) w' :=
  ⟨v, u, by rw [hx], hv, hu, hb⟩
theorem RowV.grown {α : Type} {f : α → Value} {e : TypeId} {w : World} {base g c : Nat} {l : List α} (h : RowV f e w base g c l) (j : Nat) (x : α) : w.grownBy (w.setCell ⟨g, j, none⟩ (f x)) (some g) := (World.ownsRow.stored h j (f x)).2
theorem fill_set {α : Type} {l : List α} {n j : Nat} {x z : α} (hl : l.length = n) (hj : j < n) (hx : l[j]? = some x) : (l.take j ++ List.replicate (n - j) z).set j x = l.take (j + 1) ++ List.replicate (n - (j + 1)) z := by
  have ht : (l.take j).length = j := by rw [List.length_take]; omega
  rw [List.set_append_right _ _ (by omega), ht, Nat.sub_self, show n - j = (n - (j + 1)) + 1 from by omega, List.replicate_succ, List.set_cons_zero, List.take_add_one, hx, List.append_assoc]
  rfl
theorem fill_end {α : Type} {l : List α} {n : Nat} {z : α} (hl : l.length = n) : l.take n ++ List.replicate (n - n) z = l := by rw [Nat.sub_self, List.replicate_zero, List.append_nil, ← hl, List.take_length]
theorem fill_start {α : Type} (l : List α) (n : Nat) (z : α) : List.replicate n z = l.take 0 ++ List.replicate (n - 0) z := by simp
theorem fill_len {α : Type} {l : List α} {n j : Nat} {z : α} (hl : l.length = n) (hj : j ≤ n) : (l.take j ++ List.replicate (n - j) z).length = n := by rw [List.length_append, List.length_take, List.length_replicate]; omega
/-- Indices as a slice's elements. -/
def nI (n : Nat) : Value := .int .i64 (n : Int)
section
variable {H : Type} {enc : TypeId × Value → H} {P : Program}
/-- A slice of texts that comes in. -/
theorem open_rdS {r : Reach} {b0 : Nat} {t e : TypeId} {w : World} {v : Value} {d : DataW H} {ps : List MemPlace} {held : Bool} (ht : P.underlying t = some (.slice e)) (he : P.underlying e = some .string) (hc : P.cellsOf e = 1)
    (hval : Value.okWide P w r b0 t v) (hd : DataW.Trod enc P w 0 (fun _ => true) held t v d ps) {ts : List TypeId} {ds : List (DataW H)} (hsz : (DataW.weightsEach P ts ds).all (· ≤ reachBytes) = true) {j : Nat} (hj : ts[j]? = some t) (hdj : ds[j]? = some d) :
    ∃ l : List ByteArray, RdV Value.string w w.heap.size v l ∧ l.length * P.bytesOf e ≤ 140737488351232 ∧ (∀ x ∈ l, x.size ≤ maxLen) ∧ (l = [] ∨ ∃ sp, d = .slice (l.map fun s => .lit (.string s.data.toList)) sp) := by
  obtain ⟨A, l, c, rfl⟩ := okWide_slice ht hval
  obtain ⟨fuel, hf⟩ := hd
  rcases Deep.open_strs ht he hc hf with ⟨hcs, hx⟩ | ⟨a, len, cap, m, Z, hcs, _, hl, hm, hmm, hx, hcell⟩
  · simp only [Value.cells, List.cons.injEq, Value.slice.injEq, and_true] at hcs
    obtain ⟨rfl, rfl, rfl⟩ := hcs
    exact ⟨[], RdV.nil _ _ _, by simp, by simp, .inl rfl⟩
  · simp only [Value.cells, List.cons.injEq, Value.slice.injEq, and_true] at hcs
    obtain ⟨rfl, rfl, rfl⟩ := hcs
    simp only [if_true] at hmm
    subst hmm
    refine ⟨(List.range l).map Z, ⟨some a, m, by simp, by simpa using hl, hm, fun i x hi => ?_⟩, ?_, ?_, .inr ?_⟩
    · have hil : i < l := by
        have := (List.getElem?_eq_some_iff.1 hi).1
        simpa using this
      rw [List.getElem?_map, List.getElem?_range hil] at hi
      simp only [Option.map_some, Option.some.injEq] at hi
      subst hi
      have hci := (hcell i (by omega)).1
      have hb := World.block_lt_of_cell? w _ hci
      rw [block_add] at hb
      exact ⟨a, rfl, hb, hci⟩
    · obtain ⟨rfl, _⟩ : d = _ ∧ ps = _ := by simpa using hx
      have h := sized_slice hsz hj hdj ht
      rw [List.length_map, List.length_range]
      refine Nat.le_trans (Nat.mul_le_mul_right _ ?_) (Nat.le_trans h (show reachBytes ≤ 140737488351232 by decide))
      simp
    · intro x hx'
      simp only [List.mem_map, List.mem_range] at hx'
      obtain ⟨i, hi, rfl⟩ := hx'
      exact (hcell i (by omega)).2
    · obtain ⟨rfl, _⟩ : d = _ ∧ ps = _ := by simpa using hx
      exact ⟨_, by rw [List.map_map]; rfl⟩
end
end Go.VB
