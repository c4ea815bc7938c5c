/- Rows of int64: cuts of a slice, rows with room, and texts appended to a row of bytes. -/
import Derived.Test.YtjoohmifbkbpbaaRle
import Derived.Test.YtjoohmifbkbpbaaMemV
import Derived.Lib.AppendStr
namespace Go.VB
open Go.RowKit
theorem RdI.toV {k : IntKind} {w : World} {B : Nat} {v : Value} {zs : List Int} (h : RdI k w B v zs) : RdV (Value.int k) w B v zs := by
  obtain ⟨A, c, hv, hc, hm, hr⟩ := h
  refine ⟨A, c, hv, hc, hm, fun i x hx => ?_⟩
  obtain ⟨hi, he⟩ := List.getElem?_eq_some_iff.1 hx
  obtain ⟨ad, h1, h2, h3⟩ := hr i hi
  refine ⟨ad, h1, h2, ?_⟩
  rw [h3, List.getD_eq_getElem?_getD, hx]; rfl
theorem RdV.toI {k : IntKind} {w : World} {B : Nat} {v : Value} {zs : List Int} (h : RdV (Value.int k) w B v zs) : RdI k w B v zs := by
  obtain ⟨A, c, hv, hc, hm, hr⟩ := h
  refine ⟨A, c, hv, hc, hm, fun i hi => ?_⟩
  obtain ⟨ad, h1, h2, h3⟩ := hr i zs[i] (List.getElem?_eq_getElem hi)
  refine ⟨ad, h1, h2, ?_⟩
  rw [h3, List.getD_eq_getElem?_getD, List.getElem?_eq_getElem hi]; rfl
theorem addr_add_add (a : Addr) (i j : Nat) : (a.add i).add j = a.add (i + j) := by
  unfold Addr.add
  by_cases hi : i = 0
  · subst hi; simp
  · by_cases hj : j = 0
    · subst hj; simp [hi]
    · simp [hi, hj, Nat.add_assoc]
theorem addr_zero (a : Addr) : a.add 0 = a := by unfold Addr.add; simp
/-- l[i:]. -/
theorem RdV.tail {α : Type} {f : α → Value} {w : World} {B c : Nat} {ad : Addr} {l : List α} (h : RdV f w B (.slice (some ad) l.length c) l) (i : Nat) (hi : i ≤ l.length) :
    RdV f w B (.slice (some (ad.add i)) (l.length - i) (c - i)) (l.drop i) := by
  obtain ⟨A', c', hv, hc, hm, hr⟩ := h
  cases hv
  refine ⟨_, c - i, by rw [List.length_drop], by rw [List.length_drop]; omega, by omega, fun j x hx => ⟨_, rfl, ?_⟩⟩
  rw [List.getElem?_drop] at hx
  obtain ⟨ad', h1, h2, h3⟩ := hr (i + j) x hx
  cases h1
  exact ⟨by rw [block_add]; exact h2, by rw [addr_add_add]; exact h3⟩
/-- make([]T, 0, n). -/
theorem OwnV.made0 {α : Type} (f : α → Value) (z : Value) (e : TypeId) (w : World) (base n : Nat) (hb : base ≤ w.heap.size) (hm : n ≤ maxLen) :
    OwnV f e (w.alloc (.cells (madeCells #[z] n) e)) base (.slice (some ⟨w.heap.size, 0, none⟩) 0 n) [] :=
  World.ownsRow_made w _ n hb hm (by rw [size_madeCells, Nat.mul_one])
/-- []byte{}. -/
theorem OwnB.empty (e : TypeId) (w : World) (base c : Nat) (hb : base ≤ w.heap.size) (cur : Array Value) (hc : cur.size = c) (hm : c ≤ maxLen) : OwnB e (w.alloc (.cells cur e)) base (.slice (some ⟨w.heap.size, 0, none⟩) 0 c) [] :=
  World.ownsRow_made w cur c hb hm (by rw [hc, Nat.mul_one])
theorem OwnB.below {e : TypeId} {w w' : World} {base : Nat} {v : Value} {bs : List UInt8} (h : OwnB e w base v bs) (hb : Below w.heap.size w w') : OwnB e w' base v bs := by
  refine World.ownsRow.kept (row := none) h ⟨hb.os, hb.tape, hb.output, hb.size, fun b hlt _ => hb.block b hlt⟩ ?_
  rcases hv : v.ownBlock with _ | b
  · exact .inl rfl
  · exact .inr (by simp)
/-- A row's next room, asked by a length below four fifths of the greatest. -/
theorem grow_le (need : Nat) : ∀ (r c : Nat), c < need → Builtin.growBy need r c ≤ need + need / 4 + 192
  | 0, c, h => by unfold Builtin.growBy; omega
  | r + 1, c, h => by
    unfold Builtin.growBy
    rw [if_neg (by omega)]
    by_cases h2 : c + (c + 768) / 4 < need
    · exact grow_le need r _ h2
    · cases r with
      | zero => unfold Builtin.growBy; omega
      | succ r => unfold Builtin.growBy; rw [if_pos (by omega)]; omega
theorem next_le {need old : Nat} (h : old < need) : Builtin.nextslicecap need old ≤ need + need / 4 + 512 := by
  unfold Builtin.nextslicecap
  split
  · omega
  · split
    · omega
    · have := grow_le need 4 old h; omega
theorem strCells_bv (s : ByteArray) : Lib.strCells s = s.data.toList.map bv := rfl
section
variable {P : Program}
theorem run_appS (w : World) (base : Nat) (t u ty e : TypeId) (ht : P.underlying t = some (.slice e)) (hu : P.underlying u = some .string) (hinfo : (P.info? e).map (fun i => (i.zero, i.size, i.bytes)) = some (some (.int .u8 0), 1, 1))
    (v : Value) (bs : List UInt8) (hown : OwnB e w base v bs) (s : ByteArray) (hlen : bs.length + s.size ≤ 225179981368000) (hbase : base ≤ w.heap.size) :
    ∃ v' w', (Builtin.append_ #[t, u] ty #[v, .string s]).run P w = .ok v' w' ∧ OwnB e w' base v' (bs ++ s.data.toList) ∧ w.grownBy w' v.ownBlock := by
  obtain ⟨i, hi, hz, hsz, hby⟩ := info_parts hinfo
  have fin : ∀ v' w', w'.ownsRow base e 1 v' (bs.length + s.size) (bs.map bv ++ Lib.strCells s) → OwnB e w' base v' (bs ++ s.data.toList) := fun v' w' h => by
    unfold OwnB
    rw [List.map_append, List.length_append, size_list]
    exact h
  by_cases hsmall : bs.length + s.size ≤ 140737488355328
  · obtain ⟨v', w', h1, h2, h3, _⟩ := Lib.run_append_own_string (P := P) w base t u ty e i ht hu hi hz hsz hby v bs.length (bs.map bv) hown s (by unfold maxLen; omega) hsmall hbase
    exact ⟨v', w', h1, fin v' w' h2, h3⟩
  · have hxl : (bs.map bv).length = bs.length := List.length_map _
    have hsl := Lib.strCells_length s
    have hown' : w.ownsRow base e 1 v bs.length (bs.map bv) := hown
    rcases hown'.2 with ⟨rfl, h0⟩ | ⟨g, cap, cur, rfl, hbg, hg, hnc, hcm, hcs, htake⟩
    · have h0' : bs = [] := List.eq_nil_of_length_eq_zero h0
      subst h0'
      simp only [List.length_nil, Nat.zero_add] at hsmall hlen
      have hr := run_append_nil_string (P := P) w t u ty e i (.int .u8 0) ht hu hi hz s (by omega) (by omega) (by rw [hby]; omega)
      have hge := grownCap_ge w s.size 0 e
      have hcm := grownCap_le_maxLen w s.size 0 e (by unfold maxLen; omega)
      have e1 : (s.data.map fun b => Value.int .u8 b.toNat) = (Lib.strCells s).toArray := by
        apply Array.ext'
        simp [Lib.strCells]
      rw [e1] at hr
      refine ⟨_, _, hr, fin _ _ ⟨by simp [hsl], .inr ⟨w.heap.size, _, _, by simp, hbase, heap_alloc_new w.drew _, by simpa using hge, hcm, ?_, ?_⟩⟩, rfl, rfl, rfl, by simp, fun k hk _ => heap_alloc_old w.drew _ hk⟩
      · have hz1 : (Value.int IntKind.u8 0).cells.size = 1 := rfl
        simp only [Array.size_append, List.size_toArray, size_zeroCells, hz1, hsl]
        omega
      · rw [Array.toList_append, List.map_nil, List.nil_append, List.length_nil, Nat.zero_add, Nat.mul_one, ← hsl]
        exact List.take_left
    · have hcs' : cur.size = cap := by simpa using hcs
      have htk : cur.toList.take bs.length = bs.map bv := by simpa using htake
      by_cases hroom : bs.length + s.size ≤ cap
      · have hr := Lib.run_append_room_string (P := P) w t u ty e i ht hu hi hsz g bs.length cap cur hg s hroom (by omega)
        refine ⟨_, _, hr, fin _ _ ⟨by rw [List.length_append, hxl, hsl, Nat.mul_one], .inr ⟨g, cap, _, rfl, hbg, setRow_heap w g cur _ e _ hg, hroom, hcm, ?_, ?_⟩⟩, rfl, rfl, rfl, by simp, fun k _ hk => setRow_other w g k _ (fun e => hk (by simp [Value.ownBlock, e]))⟩
        · simp only [List.size_toArray, List.length_append, List.length_take, List.length_drop, Array.length_toList, hsl]
          omega
        · rw [htk, Nat.mul_one]
          have : bs.length + s.size = (bs.map bv ++ Lib.strCells s).length := by rw [List.length_append, hxl, hsl]
          rw [this]
          exact List.take_left
      · have holds : ∀ j u, (bs.map bv)[j]? = some u → w.cell? ((⟨g, 0, none⟩ : Addr).add j) = some u := hown'.cells (g := g) rfl
        have hnx := next_le (need := bs.length + s.size) (old := cap) (by omega)
        have hr := Lib.run_append_grow_string (P := P) w t u ty e i (.int .u8 0) ht hu hi hz ⟨g, 0, none⟩ bs.length cap (bs.map bv) (by rw [hsz, hxl, Nat.mul_one]) holds s (by omega) (by omega) (by rw [hby]; omega)
        have hge := grownCap_ge w (bs.length + s.size) cap e
        have hcm2 := grownCap_le_maxLen w (bs.length + s.size) cap e (by unfold maxLen; omega)
        refine ⟨_, _, hr, fin _ _ ⟨by rw [List.length_append, hxl, hsl, Nat.mul_one], .inr ⟨w.heap.size, _, _, rfl, hbase, heap_alloc_new w.drew _, hge, hcm2, ?_, ?_⟩⟩, rfl, rfl, rfl, by simp, fun k hk _ => heap_alloc_old w.drew _ hk⟩
        · have hz1 : (Value.int IntKind.u8 0).cells.size = 1 := rfl
          simp only [Array.size_append, List.size_toArray, size_zeroCells, hz1, hxl, hsl]
          omega
        · have : (bs.length + s.size) * 1 = (bs.map bv ++ Lib.strCells s).length := by rw [List.length_append, hxl, hsl, Nat.mul_one]
          rw [this, Array.toList_append, Array.toList_append]
          exact List.take_left
/-- append(b, s...), s a text. -/
theorem wpl_appS {w : World} {ops : Array Oper} {rest : List Oper} {o : Oper} {a : Act} {Q : Exit → Act → World → Prop} (hgd : o.guard = none) (sl x : Operand) (t u : TypeId)
    (ho : o.op = .call { callee := .builtin .append, args := #[sl, x], argTypes := #[t, u] })
    (base : Nat) (e : TypeId) (ht : P.underlying t = some (.slice e)) (hu : P.underlying u = some .string) (hinfo : (P.info? e).map (fun i => (i.zero, i.size, i.bytes)) = some (some (.int .u8 0), 1, 1))
    (v : Value) (bs : List UInt8) (hs : a.eval sl = v) (hown : OwnB e w base v bs) (s : ByteArray) (hx : a.eval x = .string s) (hlen : bs.length + s.size ≤ 225179981368000) (hbase : base ≤ w.heap.size)
    (h : ∀ v' w', OwnB e w' base v' (bs ++ s.data.toList) → Below base w w' → w.grownBy w' v.ownBlock → wpList P ops Q rest (a.put o.dst v') w') : wpList P ops Q (o :: rest) a w := by
  refine wpList_plain hgd fun K hK => ?_
  obtain ⟨v', w', hr, h2, h3⟩ := run_appS (P := P) w base t u o.type e ht hu hinfo v bs hown s hlen hbase
  have hbel : Below base w w' := (Below.refl _ _).grown h3 hbase (fun b hb => (World.ownsRow.lt hown b hb).1)
  unfold Oper.wp execOp
  simp only [ho, resolve, invoke, builtin, Sem.run_bind, Sem.run_pure, Result.andThen_ok, List.map_toArray, List.map_cons, List.map_nil, hs, hx, hr]
  exact hK _ _ (h v' w' h2 hbel h3)
end
end Go.VB
