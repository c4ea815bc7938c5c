/- Bytes that a call owns, told by their cells: a text turned into bytes, texts appended, turned back into a text. -/
import Derived.Test.YtjoohmifbkbpbaaDctM
import Derived.Laws.IdiomStrings
import Derived.Laws.IdiomCopy
namespace Go.VB
open Go.RowKit
/-- The slice v, of bytes, is the call's own, not nil, and holds bs. -/
def OwnF (w : World) (base : Nat) (v : Value) (bs : List UInt8) : Prop :=
  ∃ g c, v = .slice (some ⟨g, 0, none⟩) bs.length c ∧ base ≤ g ∧ g < w.heap.size ∧ bs.length ≤ c ∧ c ≤ maxLen ∧ (∀ j, j < c → (w.cell? ⟨g, j, none⟩).isSome = true ∧ w.frozen? ⟨g, j, none⟩ = false) ∧ ∀ j b, bs[j]? = some b → w.cell? ⟨g, j, none⟩ = some (bv b)
theorem OwnF.below {w w' : World} {base : Nat} {v : Value} {bs : List UInt8} (h : OwnF w base v bs) (hb : Below w.heap.size w w') : OwnF w' base v bs := by
  obtain ⟨g, c, hv, h1, h2, h3, h4, h5, h6⟩ := h
  refine ⟨g, c, hv, h1, Nat.lt_of_lt_of_le h2 hb.size, h3, h4, fun j hj => ?_, fun j b hj => ?_⟩
  · rw [hb.cell (show (⟨g, j, none⟩ : Addr).block < w.heap.size from h2), hb.frozen (show (⟨g, j, none⟩ : Addr).block < w.heap.size from h2)]; exact h5 j hj
  · rw [hb.cell (show (⟨g, j, none⟩ : Addr).block < w.heap.size from h2)]; exact h6 j b hj
theorem OwnF.drew {w : World} {base : Nat} {v : Value} {bs : List UInt8} (h : OwnF w base v bs) : OwnF w.drew base v bs := h
/-- A row of bytes laid in a new block whose cells below its capacity can be written. -/
theorem OwnF.laid {w : World} {base c : Nat} {e : TypeId} {bs : List UInt8} {cur : Array Value} {fz : Nat × Nat} (hb : base ≤ w.heap.size) (hc : bs.length ≤ c) (hm : c ≤ maxLen) (hs : cur.size = c) (hf : fz.2 = 0 ∨ c ≤ fz.1) (hcur : ∀ (j : Nat) b, bs[j]? = some b → cur[j]? = some (bv b)) :
    OwnF (w.alloc (.cells cur e fz)) base (.slice (some ⟨w.heap.size, 0, none⟩) bs.length c) bs := by
  have hh : (w.alloc (.cells cur e fz)).heap[w.heap.size]? = some (.cells cur e fz) := by
    show (w.heap.push (.cells cur e fz))[w.heap.size]? = _
    simp
  have hcell : ∀ j, (w.alloc (.cells cur e fz)).cell? ⟨w.heap.size, j, none⟩ = cur[j]? := fun j => by
    unfold World.cell?
    simp only [hh]
    rfl
  refine ⟨w.heap.size, c, rfl, hb, by simp, hc, hm, fun j hj => ⟨?_, ?_⟩, fun j b hj => ?_⟩
  · rw [hcell, Array.getElem?_eq_getElem (by omega)]; rfl
  · unfold World.frozen?
    simp only [hh]
    rcases hf with hf | hf
    · simp [hf]
    · have : ¬ fz.1 ≤ j := by omega
      simp [this]
  · rw [hcell]; exact hcur j b hj
theorem grown_setCells (g : Nat) : ∀ (vs : List Value) (o : Nat) (w : World), w.grownBy (w.setCells g o vs) (some g)
  | [], _, w => World.grownBy.refl w _
  | v :: r, o, w => by
    have h := grown_setCells g r (o + 1) (w.setCell ⟨g, o, none⟩ v)
    exact ⟨h.os, h.tape, h.output, Nat.le_trans (by simp [World.setCell]) h.size, fun k hk hne => (h.block k (by simpa [World.setCell] using hk) hne).trans (Below.heap_setCell _ _ _ _ (fun e => hne (by rw [e])))⟩
section
variable {P : Program}
/-- append(b, s...), s a text. -/
theorem run_appF (w : World) (base : Nat) (t u ty e : TypeId) (ht : P.underlying t = some (.slice e)) (hu : P.underlying u = some .string) (hinfo : (P.info? e).map (fun i => (i.zero, i.size, i.bytes)) = some (some (.int .u8 0), 1, 1))
    (v : Value) (bs : List UInt8) (hown : OwnF w base v bs) (s : ByteArray) (hlen : bs.length + s.size ≤ 225179981368000) (hbase : base ≤ w.heap.size) :
    ∃ v' w', (Builtin.append_ #[t, u] ty #[v, .string s]).run P w = .ok v' w' ∧ OwnF w' base v' (bs ++ s.data.toList) ∧ w.grownBy w' v.ownBlock := by
  obtain ⟨i, hi, hz, hsz, hby⟩ := info_parts hinfo
  obtain ⟨g, c, rfl, h1, h2, h3, h4, h5, h6⟩ := hown
  have hsl := Lib.strCells_length s
  by_cases hroom : bs.length + s.size ≤ c
  · have hf := Lib.run_firstCells_string (P := P) w 1 s
    have hst := run_storeCells_cells (P := P) g bs.length (Lib.strCells s) 0 w (fun j hj => (h5 _ (by omega)).1) (fun j hj => (h5 _ (by omega)).2) (Lib.strCells_oneCell s)
    simp only [Nat.add_zero] at hst
    have hg := grown_setCells g (Lib.strCells s) bs.length w
    refine ⟨.slice (some ⟨g, 0, none⟩) (bs.length + s.size) c, w.setCells g bs.length (Lib.strCells s), ?_, ?_, hg⟩
    · simp [Builtin.append_, run_underlying ht, run_underlying hu, sizeOf, typeInfo, hi, hsz, Builtin.lenOf, hroom, hf, Addr.add_lit, hst]
    · refine ⟨g, c, by rw [List.length_append, size_list], h1, Nat.lt_of_lt_of_le h2 hg.size, by rw [List.length_append, size_list]; exact hroom, h4, fun j hj => ⟨?_, ?_⟩, fun j b hj => ?_⟩
      · by_cases hin : bs.length ≤ j ∧ j < bs.length + (Lib.strCells s).length
        · obtain ⟨k, rfl⟩ : ∃ k, j = bs.length + k := ⟨j - bs.length, by omega⟩
          rw [World.cell?_setCells_in g (Lib.strCells s) bs.length w (fun j hj => (h5 _ (by omega)).1) k (by omega)]; rfl
        · rw [World.cell?_setCells_out g (Lib.strCells s) bs.length w _ (fun _ _ => by simp only; omega)]; exact (h5 j hj).1
      · rw [World.frozen?_setCells]; exact (h5 j hj).2
      · by_cases hin : j < bs.length
        · rw [World.cell?_setCells_out g (Lib.strCells s) bs.length w _ (fun _ _ => .inl hin)]
          rw [List.getElem?_append_left hin] at hj
          exact h6 j b hj
        · rw [List.getElem?_append_right (by omega)] at hj
          obtain ⟨k, rfl⟩ : ∃ k, j = bs.length + k := ⟨j - bs.length, by omega⟩
          rw [Nat.add_sub_cancel_left] at hj
          have hk : k < (Lib.strCells s).length := by rw [hsl, ← size_list]; exact (List.getElem?_eq_some_iff.1 hj).1
          rw [World.cell?_setCells_in g (Lib.strCells s) bs.length w (fun j hj => (h5 _ (by omega)).1) k hk]
          have e1 : (Lib.strCells s)[k]? = some (bv b) := by rw [strCells_bv, List.getElem?_map, hj]; rfl
          rw [← e1, List.getElem?_eq_getElem hk]
  · have holds : ∀ j u, (bs.map bv)[j]? = some u → w.cell? ((⟨g, 0, none⟩ : Addr).add j) = some u := fun j u hj => by
      rw [List.getElem?_map] at hj
      cases hb : bs[j]? with
      | none => rw [hb] at hj; simp at hj
      | some b =>
        rw [hb] at hj
        simp only [Option.map_some, Option.some.injEq] at hj
        subst hj
        rw [Addr.add_lit, Nat.zero_add]
        exact h6 j b hb
    have hnx := next_le (need := bs.length + s.size) (old := c) (by omega)
    have hxl : (bs.map bv).length = bs.length := List.length_map _
    have hr := Lib.run_append_grow_string (P := P) w t u ty e i (.int .u8 0) ht hu hi hz ⟨g, 0, none⟩ bs.length c (bs.map bv) (by rw [hsz, hxl, Nat.mul_one]) holds s (by omega) (by omega) (by rw [hby]; omega)
    have hge := grownCap_ge w (bs.length + s.size) c e
    have hcm2 := grownCap_le_maxLen w (bs.length + s.size) c e (by unfold maxLen; omega)
    have hz1 : (Value.int IntKind.u8 0).cells.size = 1 := rfl
    have hown := OwnF.laid (w := w.drew) (base := base) (c := grownCap w (bs.length + s.size) c e) (e := e) (bs := bs ++ s.data.toList) (cur := (bs.map bv).toArray ++ (Lib.strCells s).toArray ++ Builtin.zeroCells (Value.int IntKind.u8 0).cells (grownCap w (bs.length + s.size) c e - (bs.length + s.size))) (fz := (0, 0)) hbase
      (by rw [List.length_append, size_list]; exact hge) hcm2 (by simp only [Array.size_append, List.size_toArray, size_zeroCells, hz1, hxl, hsl]; omega) (.inl rfl) (fun j b hj => by
        rw [strCells_bv]
        have hjl : j < (bs ++ s.data.toList).length := (List.getElem?_eq_some_iff.1 hj).1
        have e1 : (bs.map bv).toArray ++ (s.data.toList.map bv).toArray = ((bs ++ s.data.toList).map bv).toArray := by rw [List.map_append, List.append_toArray]
        rw [e1, Array.getElem?_append_left (by rw [List.size_toArray, List.length_map]; exact hjl), List.getElem?_toArray, List.getElem?_map, hj]; rfl)
    rw [List.length_append, size_list] at hown
    exact ⟨_, _, hr, hown, rfl, rfl, rfl, by simp, fun k hk _ => heap_alloc_old w.drew _ hk⟩
theorem wpl_appF {w : World} {ops : Array Oper} {rest : List Oper} {o : Oper} {a : Act} {Q : Exit → Act → World → Prop} (hgd : o.guard = none) (sl x : Operand) (t u : TypeId)
    (ho : o.op = .call { callee := .builtin .append, args := #[sl, x], argTypes := #[t, u] })
    (base : Nat) (e : TypeId) (ht : P.underlying t = some (.slice e)) (hu : P.underlying u = some .string) (hinfo : (P.info? e).map (fun i => (i.zero, i.size, i.bytes)) = some (some (.int .u8 0), 1, 1))
    (v : Value) (bs : List UInt8) (hs : a.eval sl = v) (hown : OwnF w base v bs) (s : ByteArray) (hx : a.eval x = .string s) (hlen : bs.length + s.size ≤ 225179981368000) (hbase : base ≤ w.heap.size)
    (h : ∀ v' w', OwnF w' base v' (bs ++ s.data.toList) → Below base w w' → wpList P ops Q rest (a.put o.dst v') w') : wpList P ops Q (o :: rest) a w := by
  refine wpList_plain hgd fun K hK => ?_
  obtain ⟨v', w', hr, h2, h3⟩ := run_appF (P := P) w base t u o.type e ht hu hinfo v bs hown s hlen hbase
  have hbel : Below base w w' := (Below.refl _ _).grown h3 hbase (fun b hb => by
    obtain ⟨g, c, rfl, h1, _⟩ := hown
    simp [Value.ownBlock] at hb
    omega)
  unfold Oper.wp execOp
  simp only [ho, resolve, invoke, builtin, Sem.run_bind, Sem.run_pure, Result.andThen_ok, List.map_toArray, List.map_cons, List.map_nil, hs, hx, hr]
  exact hK _ _ (h v' w' h2 hbel)
/-- string(b). -/
theorem run_string_of_F {w : World} (src dst e : TypeId) {base : Nat} {v : Value} {bs : List UInt8}
    (hs : P.underlying src = some (.slice e)) (he : P.underlying e = some (.int .u8)) (hd : P.underlying dst = some .string) (h : OwnF w base v bs) :
    (convert src dst v).run P w = .ok (.string (str bs)) w := by
  obtain ⟨g, c, rfl, _, _, _, _, _, h6⟩ := h
  refine run_string_of_row w src dst e _ _ c bs hs he hd rfl ?_
  have := run_loadCells_list (P := P) (w := w) ⟨g, 0, none⟩ (bs.map bv) (fun j u hj => by
    rw [List.getElem?_map] at hj
    cases hb : bs[j]? with
    | none => rw [hb] at hj; simp at hj
    | some b =>
      rw [hb] at hj
      simp only [Option.map_some, Option.some.injEq] at hj
      subst hj
      rw [Addr.add_lit, Nat.zero_add]
      exact h6 j b hb)
  rw [List.length_map] at this
  exact this
/-- []byte(s). -/
theorem run_bytes_F (w : World) (base : Nat) (src dst e : TypeId) (s : ByteArray) (hs : P.underlying src = some .string) (hd : P.underlying dst = some (.slice e)) (he : P.underlying e = some (.int .u8)) (hz : s.size ≤ 4611686018427387904) (hb : base ≤ w.heap.size) :
    ∃ v' w', (convert src dst (.string s)).run P w = .ok v' w' ∧ OwnF w' base v' s.data.toList ∧ Below w.heap.size w w' := by
  have hge := grownCap_ge w s.size 0 e
  have hcm := grownCap_le_maxLen w s.size 0 e (by unfold maxLen; omega)
  have hr := run_bytes_of_string (P := P) w src dst e s hs hd he
  have hsz : (bytesRow s (grownCap w s.size 0 e)).size = grownCap w s.size 0 e := by
    unfold bytesRow
    have : s.data.size = s.size := rfl
    simp only [Array.size_append, Array.size_map, Array.size_replicate]; omega
  refine ⟨_, _, hr, ?_, ((Below.refl _ _).drew.alloc (Nat.le_refl _) _)⟩
  have := OwnF.laid (w := w.drew) (base := base) (c := grownCap w s.size 0 e) (e := e) (bs := s.data.toList) (cur := bytesRow s (grownCap w s.size 0 e)) (fz := ((bytesRow s (grownCap w s.size 0 e)).size, (bytesRow s (grownCap w s.size 0 e)).size + 1)) hb
    (by rw [size_list]; exact hge) hcm hsz (.inr (by simp only; omega)) (fun j b hj => by
      obtain ⟨hj1, he1⟩ := List.getElem?_eq_some_iff.1 hj
      have hj2 : j < s.data.size := by rw [size_list] at hj1; exact hj1
      rw [bytesRow_at s _ j hj2, ← he1]
      rfl)
  rw [size_list] at this
  exact this
end
end Go.VB
