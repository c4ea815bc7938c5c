/- General lemmas: how a walk that returns true becomes the stated row; posts behind names; small facts on worlds, bytes and strings. -/
import Derived.Test.YtnmlajmaffiigaaGreatDoorRows
import Derived.WalkKit
import Derived.WalkSpells
import Derived.WalkLawsBesides
import Derived.ProofKit
import Derived.OpenShut
import Derived.ShutString
import Derived.ChangeOld
import Derived.SizedLaws
import Derived.JoinedOf
import Derived.Lib.Hide
import Derived.Laws.AppendOwnNone
import Derived.Lib.SmallJoins
import Derived.ChangeSlices
import Derived.RegionTactic
import Derived.ChangeAlike
namespace Go.VB
open Go.RowKit Go.ChangeShapes Go.WideShapes Go.ChangeAt

/-- It returns v and the world is as it was. -/
def Ret (v : Value) (w : World) : Ending → World → Prop := fun e w' => e = .returned v ∧ w = w'
/-- It returns v; what was there is as it was. -/
def RetB (v : Value) (w : World) : Ending → World → Prop := fun e w' => e = .returned v ∧ Below w.heap.size w w'

theorem vint {k : IntKind} {a b : Int} (h : a = b) : Value.int k a = Value.int k b := by rw [h]
theorem Ret.mk {v v' : Value} {w : World} (h : v' = v) : Ret v w (.returned v') w := ⟨by rw [h], rfl⟩
theorem RetB.mk {v v' : Value} {w w' : World} (h : v' = v) (hb : Below w.heap.size w w') : RetB v w (.returned v') w' := ⟨by rw [h], hb⟩
theorem bel_trans {W a b : World} (h1 : Below W.heap.size W a) (h2 : Below a.heap.size a b) : Below W.heap.size W b := h1.trans (h2.mono h1.size)

section lift
variable {H : Type} {enc : TypeId × Value → H} {P : Program}

theorem trodAll_below (hl : laidOutB P = true) {W W' : World} (hb : Below W.heap.size W W') :
    ∀ (ts : List TypeId) (vs : List Value) (ds : List (DataW H)) (ps : List MemPlace), (∀ t ∈ ts, P.readableRec t = true ∧ t < P.types.size) →
      (∀ x ∈ ps, x.block < W.heap.size) → DataW.TrodAll enc P W 0 (fun _ => true) true ts vs ds ps →
      DataW.TrodAll enc P W' 0 (fun b => decide (b < W.heap.size)) true ts vs ds ps := by
  intro ts
  induction ts with
  | nil =>
    intro vs ds ps _ _ h
    cases vs <;> cases ds <;> simp_all [DataW.TrodAll]
  | cons t ts ih =>
    intro vs ds ps hr hlt h
    cases vs with
    | nil => simp [DataW.TrodAll] at h
    | cons v vs =>
      cases ds with
      | nil => simp [DataW.TrodAll] at h
      | cons d ds =>
        obtain ⟨p, q, h1, h2, rfl⟩ := h
        refine ⟨p, q, ?_, ?_, rfl⟩
        · exact Below.trod hl (hr t (List.mem_cons_self ..)).1 (hr t (List.mem_cons_self ..)).2 h1 hb (fun x hx => hlt x (List.mem_append_left _ hx))
        · exact ih vs ds q (fun t ht => hr t (List.mem_cons_of_mem _ ht)) (fun x hx => hlt x (List.mem_append_right _ hx)) h2

theorem trodAll_length {w : World} {base : Nat} {spare : Nat → Bool} {held : Bool} :
    ∀ (ts : List TypeId) (vs : List Value) (ds : List (DataW H)) (ps : List MemPlace), DataW.TrodAll enc P w base spare held ts vs ds ps → ds.length = ts.length := by
  intro ts
  induction ts with
  | nil => intro vs ds ps h; cases vs <;> cases ds <;> simp_all [DataW.TrodAll]
  | cons t ts ih =>
    intro vs ds ps h
    cases vs with
    | nil => simp [DataW.TrodAll] at h
    | cons v vs =>
      cases ds with
      | nil => simp [DataW.TrodAll] at h
      | cons d ds =>
        obtain ⟨p, q, _, h2, _⟩ := h
        simp [ih vs ds q h2]

end lift

/-! ### bytes and strings -/
/-- The string of a list of bytes. -/
def str (l : List UInt8) : ByteArray := ⟨l.toArray⟩
theorem str_toList (l : List UInt8) : (str l).data.toList = l := rfl
theorem str_size (l : List UInt8) : (str l).size = l.length := by simp [str, ByteArray.size]
theorem str_of (s : ByteArray) : str s.data.toList = s := rfl
theorem str_append (a b : List UInt8) : str a ++ str b = str (a ++ b) := by
  apply ByteArray.ext; simp [str]
theorem str_inj {a b : List UInt8} (h : str a = str b) : a = b := by
  have := congrArg (fun s : ByteArray => s.data.toList) h
  simpa [str_toList] using this
theorem str_push (l : List UInt8) (c : UInt8) : (str l).push c = str (l ++ [c]) := by
  apply ByteArray.ext; simp [str, ByteArray.push]
theorem fold_push (ns : List Int) : ∀ (l : List UInt8), ns.foldl (fun r n => r.push (UInt8.ofNat n.toNat)) (str l) = str (l ++ ns.map fun n => UInt8.ofNat n.toNat) := by
  induction ns with
  | nil => intro l; simp
  | cons n ns ih => intro l; simp only [List.foldl_cons, str_push, ih]; simp

/-- string(b) of a row whose cells are known. -/
theorem run_string_of_row {P : Program} (w : World) (src dst e : TypeId) (a : Addr) (l c : Nat) (bs : List UInt8)
    (hs : P.underlying src = some (.slice e)) (he : P.underlying e = some (.int .u8)) (hd : P.underlying dst = some .string)
    (_hl : bs.length = l) (hc : (loadCells a l).run P w = .ok (bs.map (fun b => Value.int .u8 (b.toNat : Int))).toArray w) :
    (convert src dst (.slice (some a) l c)).run P w = .ok (.string (str bs)) w := by
  rw [run_convert_bytes_string w src dst e (some a) l c hs he hd]
  have h := run_bytesToString (P := P) w a l c (bs.map fun b => (b.toNat : Int)) (by simpa [List.map_map, Function.comp_def] using hc)
  rw [h]
  congr 1
  have hf := fold_push (bs.map fun b => (b.toNat : Int)) []
  rw [show str [] = ByteArray.empty from rfl] at hf
  rw [hf]
  simp [List.map_map, Function.comp_def]
end Go.VB

namespace Go.VB
open Go.RowKit
/-- A byte as a value. -/
def bv (b : UInt8) : Value := .int .u8 (b.toNat : Int)
/-- The slice value v, of bytes, is the call's own and holds bs. -/
def OwnB (e : TypeId) (w : World) (base : Nat) (v : Value) (bs : List UInt8) : Prop := w.ownsRow base e 1 v bs.length (bs.map bv)

theorem OwnB.nil (e : TypeId) (w : World) (base : Nat) : OwnB e w base (.slice none 0 0) [] := World.ownsRow_nil w base e 1
theorem OwnB.alloc {e : TypeId} {w : World} {base : Nat} {v : Value} {bs : List UInt8} (h : OwnB e w base v bs) (o : Obj) : OwnB e (w.alloc o) base v bs := World.ownsRow.alloc h o
theorem u8_ofInt {c : Int} (h0 : 0 ≤ c) (h1 : c < 256) : bv (UInt8.ofNat c.toNat) = .int .u8 c := by
  unfold bv
  have : ((UInt8.ofNat c.toNat).toNat : Int) = c := by
    rw [UInt8.toNat_ofNat', Nat.mod_eq_of_lt (by omega)]; omega
  rw [this]

/-- append of one byte onto a row of the call's own. -/
theorem wpl_app1 {P : Program} {w : World} {ops : Array Oper} {rest : List Oper} {o : Oper} {a : Act} {Q : Exit → Act → World → Prop} (hgd : o.guard = none) (s x : Operand) (t : TypeId)
    (ho : o.op = .call { callee := .builtin .append, args := #[s, x], argTypes := #[t, t] })
    (base : Nat) (e : TypeId) (ht : P.underlying t = some (.slice e)) (hinfo : (P.info? e).map (fun i => (i.zero, i.size, i.bytes)) = some (some (.int .u8 0), 1, 1))
    (v : Value) (bs : List UInt8) (hs : a.eval s = v) (hown : OwnB e w base v bs)
    (g : Nat) (m : Nat) (c : Int) (hx : a.eval x = .slice (some ⟨g, 0, none⟩) 1 m) (hcell : w.cell? ⟨g, 0, none⟩ = some (.int .u8 c)) (h0 : 0 ≤ c) (h1 : c < 256)
    (hlen : bs.length < 1099511627776) (hbase : base ≤ w.heap.size)
    (h : ∀ v' w', OwnB e w' base v' (bs ++ [UInt8.ofNat c.toNat]) → Below base w w' → wpList P ops Q rest (a.put o.dst v') w') : wpList P ops Q (o :: rest) a w := by
  obtain ⟨i, hi, hz, hsz, hby⟩ := info_parts hinfo
  refine wpList_append_own w hgd s x t ho base e i (.int .u8 0) 1 1 ht hi hz hsz hby rfl (by decide) v bs.length (bs.map bv) hs hown ⟨g, 0, none⟩ 1 m [.int .u8 c] hx rfl ?_ ?_ ?_ ?_ hbase ?_
  · intro j u hj
    match j, hj with
    | 0, hj => simp at hj; subst hj; simpa [Addr.add] using hcell
  · intro u hu; simp at hu; subst hu; rfl
  · unfold maxLen; omega
  · omega
  · intro v' w' ho' hg _
    refine h v' w' ?_ ?_
    · unfold OwnB
      rw [List.map_append, List.map_cons, List.map_nil, u8_ofInt h0 h1, List.length_append]
      exact ho'
    · exact (Below.refl _ _).grown hg hbase (fun k hk => (World.ownsRow.lt hown k hk).1)

/-- string(b) of a row of the call's own. -/
theorem run_string_of_own {P : Program} {w : World} (src dst e : TypeId) {base : Nat} {v : Value} {bs : List UInt8}
    (hs : P.underlying src = some (.slice e)) (he : P.underlying e = some (.int .u8)) (hd : P.underlying dst = some .string) (h : OwnB e w base v bs) :
    (convert src dst v).run P w = .ok (.string (str bs)) w := by
  have h' : w.ownsRow base e 1 v bs.length (bs.map bv) := h
  rcases h'.2 with ⟨rfl, hn⟩ | ⟨g, cap, cur, rfl, _⟩
  · have : bs = [] := List.eq_nil_of_length_eq_zero hn
    subst this
    rw [run_convert_bytes_string w src dst e none 0 0 hs he hd]
    unfold Conv.bytesToString
    simp [Sem.run_pure]
    rfl
  · refine run_string_of_row w src dst e _ _ cap bs hs he hd rfl ?_
    have hc := World.ownsRow.cells h' (g := g) rfl
    have := run_loadCells_list (P := P) (w := w) ⟨g, 0, none⟩ (bs.map bv) hc
    rw [List.length_map] at this
    exact this
end Go.VB

namespace Go.VB
open Go.RowKit
theorem cell_new1 (w : World) (v : Value) (e : TypeId) : (w.alloc (.cells #[v] e)).cell? ⟨w.heap.size, 0, none⟩ = some v := by
  simp
end Go.VB

namespace Go.VB
open Go.RowKit
/-- string([]byte{c}): the row was laid just before. -/
theorem run_string1 {P : Program} (src dst e : TypeId) (hs : P.underlying src = some (.slice e)) (he : P.underlying e = some (.int .u8)) (hd : P.underlying dst = some .string)
    (W : World) (c : Int) (m : Nat) :
    (convert src dst (.slice (some ⟨W.heap.size, 0, none⟩) 1 m)).run P (W.alloc (.cells #[.int .u8 c] e)) = .ok (.string (str [UInt8.ofNat c.toNat])) (W.alloc (.cells #[.int .u8 c] e)) := by
  rw [run_convert_bytes_string _ src dst e _ _ _ hs he hd]
  have h := run_bytesToString (P := P) (W.alloc (.cells #[.int .u8 c] e)) ⟨W.heap.size, 0, none⟩ 1 m [c] (by
    have := run_loadCells_list (P := P) (w := W.alloc (.cells #[.int .u8 c] e)) ⟨W.heap.size, 0, none⟩ [.int .u8 c] (by
      intro j v hj
      match j, hj with
      | 0, hj => simp at hj; subst hj; simp [Addr.add])
    simpa using this)
  rw [h]
  rfl

theorem run_string1_at {P : Program} (src dst e : TypeId) (hs : P.underlying src = some (.slice e)) (he : P.underlying e = some (.int .u8)) (hd : P.underlying dst = some .string)
    (W : World) (g : Nat) (c : Int) (m : Nat) (hc : W.cell? ⟨g, 0, none⟩ = some (.int .u8 c)) :
    (convert src dst (.slice (some ⟨g, 0, none⟩) 1 m)).run P W = .ok (.string (str [UInt8.ofNat c.toNat])) W := by
  rw [run_convert_bytes_string _ src dst e _ _ _ hs he hd]
  have h := run_bytesToString (P := P) W ⟨g, 0, none⟩ 1 m [c] (by
    have := run_loadCells_list (P := P) (w := W) ⟨g, 0, none⟩ [.int .u8 c] (by
      intro j v hj
      match j, hj with
      | 0, hj => simp at hj; subst hj; simpa [Addr.add] using hc)
    simpa using this)
  rw [h]
  rfl
theorem run_string1_drew {P : Program} (src dst e : TypeId) (hs : P.underlying src = some (.slice e)) (he : P.underlying e = some (.int .u8)) (hd : P.underlying dst = some .string)
    (W : World) (c : Int) (m : Nat) :
    (convert src dst (.slice (some ⟨W.heap.size, 0, none⟩) 1 m)).run P (W.alloc (.cells #[.int .u8 c] e)).drew = .ok (.string (str [UInt8.ofNat c.toNat])) (W.alloc (.cells #[.int .u8 c] e)).drew :=
  run_string1_at src dst e hs he hd _ _ c m (cell_new1 W (.int .u8 c) e)

/-- Byte k of a string, as a number; 0 behind its end. -/
def bN (s : ByteArray) (k : Nat) : Nat := (s.data.toList.getD k 0).toNat
theorem get_bN (s : ByteArray) : ∀ (n : Nat) (h : n < s.size), (s[n]'h).toNat = bN s n := fun n h => by
  unfold bN
  rw [List.getD_eq_getElem?_getD, List.getElem?_eq_getElem (by simpa using h)]
  rfl
theorem bN_lt (s : ByteArray) (k : Nat) : bN s k < 256 := UInt8.toNat_lt _
theorem extract_list (s : ByteArray) (i j : Nat) : (s.extract i j).data.toList = (s.data.toList.drop i).take (j - i) := by
  rw [ByteArray.data_extract, Array.toList_extract, List.extract_eq_take_drop]
theorem extract_str (s : ByteArray) (i j : Nat) : s.extract i j = str ((s.data.toList.drop i).take (j - i)) := by
  rw [← extract_list]; rfl
theorem size_list (s : ByteArray) : s.data.toList.length = s.size := Array.length_toList
end Go.VB

namespace Go.VB
end Go.VB

namespace Go.VB
open Go.RowKit

/-- The values of a list of numbers. -/
def nvs (k : IntKind) (l : List Nat) : List Value := l.map fun (n : Nat) => Value.int k (n : Int)
theorem nvs_set (k : IntKind) (l : List Nat) (i x : Nat) : (nvs k l).set i (.int k (x : Int)) = nvs k (l.set i x) := by
  unfold nvs; rw [List.map_set]
theorem nvs_get (k : IntKind) (l : List Nat) (i : Nat) (h : i < l.length) : (nvs k l)[i]? = some (.int k (l.getD i 0 : Nat)) := by
  unfold nvs; rw [List.getElem?_map, List.getD_eq_getElem?_getD, List.getElem?_eq_getElem h]; rfl
theorem nvs_zeros (k : IntKind) (n : Nat) : List.replicate n (Value.int k 0) = nvs k (List.replicate n 0) := by
  unfold nvs; rw [List.map_replicate]; rfl

/-- The slice v is the call's own (its row lies at or above block base, from its head on) and holds the numbers l. -/
def OwnN (k : IntKind) (e : TypeId) (w : World) (base : Nat) (v : Value) (l : List Nat) : Prop := w.ownsRow base e 1 v l.length (nvs k l)
/-- The same at a known block g with capacity c. -/
def RowN (k : IntKind) (e : TypeId) (w : World) (base g c : Nat) (l : List Nat) : Prop := OwnN k e w base (.slice (some ⟨g, 0, none⟩) l.length c) l

section
variable {k : IntKind} {e : TypeId} {w w' : World} {base g c : Nat} {v : Value} {l : List Nat}

theorem OwnN.nil (k : IntKind) (e : TypeId) (w : World) (base : Nat) : OwnN k e w base (.slice none 0 0) [] := World.ownsRow_nil w base e 1
theorem OwnN.forms (h : OwnN k e w base v l) : (v = .slice none 0 0 ∧ l = []) ∨ ∃ g c, v = .slice (some ⟨g, 0, none⟩) l.length c ∧ RowN k e w base g c l := by
  rcases Joins.ownsRow_forms h with ⟨h1, h2⟩ | ⟨g, c, rfl⟩
  · exact .inl ⟨h1, List.eq_nil_of_length_eq_zero h2⟩
  · exact .inr ⟨g, c, rfl, h⟩
theorem OwnN.alloc (h : OwnN k e w base v l) (o : Obj) : OwnN k e (w.alloc o) base v l := World.ownsRow.alloc h o
theorem OwnN.lt (h : OwnN k e w base v l) : ∀ b, v.ownBlock = some b → base ≤ b ∧ b < w.heap.size := World.ownsRow.lt h
/-- What a call leaves that turns nothing that was there. -/
theorem OwnN.below (h : OwnN k e w base v l) (hb : Below w.heap.size w w') : OwnN k e w' base v l := by
  refine World.ownsRow.kept (row := none) h ⟨hb.os, hb.tape, hb.output, hb.size, fun b hlt _ => hb.block b hlt⟩ ?_
  rcases hv : v.ownBlock with _ | b
  · exact .inl rfl
  · exact .inr (by simp)
theorem RowN.lt (h : RowN k e w base g c l) : base ≤ g ∧ g < w.heap.size := World.ownsRow.lt h g rfl
theorem RowN.own (h : RowN k e w base g c l) : OwnN k e w base (.slice (some ⟨g, 0, none⟩) l.length c) l := h
theorem RowN.below (h : RowN k e w base g c l) (hb : Below w.heap.size w w') : RowN k e w' base g c l := OwnN.below h hb
theorem RowN.drew (h : RowN k e w base g c l) : RowN k e w.drew base g c l := h
theorem RowN.alloc (h : RowN k e w base g c l) (o : Obj) : RowN k e (w.alloc o) base g c l := OwnN.alloc h o
theorem RowN.cell (h : RowN k e w base g c l) (j : Nat) (hj : j < l.length) : w.cell? ⟨g, j, none⟩ = some (.int k (l.getD j 0 : Nat)) := by
  rw [World.ownsRow.cellAt h j (by omega), nvs_get k l j hj]
theorem RowN.frozen (h : RowN k e w base g c l) (j : Nat) : w.frozen? ⟨g, j, none⟩ = false := World.ownsRow.frozenAt h j
theorem RowN.store (h : RowN k e w base g c l) (j x : Nat) : RowN k e (w.setCell ⟨g, j, none⟩ (.int k (x : Int))) base g c (l.set j x) := by
  have := (World.ownsRow.stored h j (.int k (x : Int))).1
  unfold RowN OwnN
  rw [List.length_set, ← nvs_set]
  exact this
theorem RowN.made (k : IntKind) (e : TypeId) (w : World) (base n : Nat) (hb : base ≤ w.heap.size) (hm : n ≤ maxLen) :
    RowN k e (w.alloc (.cells (madeCells #[.int k 0] n) e)) base w.heap.size n (List.replicate n 0) := by
  have := World.ownsRow_lit (base := base) (e := e) (size := 1) w (madeCells #[.int k 0] n) n hb hm (by rw [size_madeCells, Nat.mul_one])
  rw [toList_madeCells_one, nvs_zeros] at this
  unfold RowN OwnN
  rw [List.length_replicate]
  exact this

/-- The slice v can be read and holds the numbers l; it lies below block B. -/
def RdN (k : IntKind) (w : World) (B : Nat) (v : Value) (l : List Nat) : Prop :=
  ∃ A c, v = .slice A l.length c ∧ l.length ≤ c ∧ c ≤ maxLen ∧ ∀ i, i < l.length → ∃ ad, A = some ad ∧ ad.block < B ∧ w.cell? (ad.add i) = some (.int k (l.getD i 0 : Nat))
theorem block_add (a : Addr) (n : Nat) : (a.add n).block = a.block := by unfold Addr.add; split <;> rfl
theorem RdN.nil (k : IntKind) (w : World) (B : Nat) : RdN k w B (.slice none 0 0) [] := ⟨none, 0, rfl, Nat.le_refl _, Nat.zero_le _, fun _ hi => absurd hi (Nat.not_lt_zero _)⟩
theorem RdN.more {B B' : Nat} (h : RdN k w B v l) (hB : B ≤ B') : RdN k w B' v l := by
  obtain ⟨A, c, hv, hc, hm, hr⟩ := h
  refine ⟨A, c, hv, hc, hm, fun i hi => ?_⟩
  obtain ⟨ad, h1, h2, h3⟩ := hr i hi
  exact ⟨ad, h1, by omega, h3⟩
theorem RdN.below {B : Nat} (h : RdN k w B v l) (hb : Below B w w') : RdN k w' B v l := by
  obtain ⟨A, c, hv, hc, hm, hr⟩ := h
  refine ⟨A, c, hv, hc, hm, fun i hi => ?_⟩
  obtain ⟨ad, h1, h2, h3⟩ := hr i hi
  exact ⟨ad, h1, h2, by rw [hb.cell (by rw [block_add]; exact h2)]; exact h3⟩
theorem RowN.read (h : RowN k e w base g c l) : RdN k w w.heap.size (.slice (some ⟨g, 0, none⟩) l.length c) l := by
  have hlt := h.lt.2
  have hc : l.length ≤ c ∧ c ≤ maxLen := by
    have h' : w.ownsRow base e 1 (.slice (some ⟨g, 0, none⟩) l.length c) l.length (nvs k l) := h
    rcases h'.2 with ⟨h1, _⟩ | ⟨g', c', cur, h1, _, _, h3, h4, _⟩
    · cases h1
    · cases h1; exact ⟨h3, h4⟩
  refine ⟨_, c, rfl, hc.1, hc.2, fun i hi => ⟨_, rfl, hlt, ?_⟩⟩
  have := h.cell i hi
  unfold Addr.add
  by_cases h0 : i = 0
  · subst h0; simpa using this
  · simpa [h0] using this
theorem OwnN.read (h : OwnN k e w base v l) : RdN k w w.heap.size v l := by
  rcases h.forms with ⟨rfl, rfl⟩ | ⟨g, c, rfl, hr⟩
  · exact RdN.nil _ _ _
  · exact hr.read
end

/-- make([]T, n) of whole numbers. -/
theorem run_makeN {P : Program} {t e : TypeId} {k : IntKind} {bytes : Nat} (ht : P.underlying t = some (.slice e)) (hinfo : (P.info? e).map (fun i => (i.zero, i.size, i.bytes)) = some (some (.int k 0), 1, bytes))
    (n : Nat) (hb : bytes * n ≤ 281474976710656) (hm : n ≤ maxLen) (w : World) :
    (Instr.makeSlice t (.int .i64 (n : Int)) (.int .i64 (n : Int))).run P w = .ok (.slice (some ⟨w.heap.size, 0, none⟩) n n) (w.alloc (.cells (madeCells #[.int k 0] n) e)) := by
  obtain ⟨i, hi, hz, hsz, hby⟩ := info_parts hinfo
  unfold maxLen at hm
  have h := run_make (P := P) w t e i (.int k 0) ht hi hz .i64 .i64 n n (by omega) (Int.le_refl _) (by rw [hby, ← Int.natCast_mul]; omega) (by omega)
  rw [Int.toNat_natCast, hsz, Nat.mul_one] at h
  exact h

/-- It returns a text and a code; what was there is as it was. -/
def RetSE (s : ByteArray) (c : Nat) (w : World) : Ending → World → Prop := RetB (.tuple #[.string s, .int .i64 (c : Int)]) w
end Go.VB

namespace Go.VB
open Go.RowKit Go.ChangeShapes Go.WideShapes Go.ChangeAt

/-- The slice v can be read and holds the whole numbers zs; it lies below block B. -/
def RdI (k : IntKind) (w : World) (B : Nat) (v : Value) (zs : List Int) : Prop :=
  ∃ A c, v = .slice A zs.length c ∧ zs.length ≤ c ∧ c ≤ maxLen ∧ ∀ i, i < zs.length → ∃ ad, A = some ad ∧ ad.block < B ∧ w.cell? (ad.add i) = some (.int k (zs.getD i 0))
theorem RdI.below {k : IntKind} {w w' : World} {B : Nat} {v : Value} {zs : List Int} (h : RdI k w B v zs) (hb : Below B w w') : RdI k w' B v zs := by
  obtain ⟨A, c, hv, hc, hm, hr⟩ := h
  refine ⟨A, c, hv, hc, hm, fun i hi => ?_⟩
  obtain ⟨ad, h1, h2, h3⟩ := hr i hi
  exact ⟨ad, h1, h2, by rw [hb.cell (by rw [block_add]; exact h2)]; exact h3⟩
section
variable {H : Type} {enc : TypeId × Value → H} {P : Program}
end
end Go.VB

namespace Go.VB
open Go.RowKit
theorem RowN.own_at {k : IntKind} {e : TypeId} {w : World} {base g c n : Nat} {l l' : List Nat} (h : RowN k e w base g c l) (hl : l.length = n) (he : l = l') : OwnN k e w base (.slice (some ⟨g, 0, none⟩) n c) l' := by
  subst hl; subst he; exact h
theorem RdN.one (k : IntKind) (w : World) (x m : Nat) (e : TypeId) (hm : 1 ≤ m) (hm2 : m ≤ maxLen) : RdN k (w.alloc (.cells #[.int k (x : Int)] e)) (w.heap.size + 1) (.slice (some ⟨w.heap.size, 0, none⟩) 1 m) [x] :=
  ⟨_, m, rfl, hm, hm2, fun i hi => ⟨_, rfl, Nat.lt_succ_self _, by
    have h0 : i = 0 := by simp at hi; omega
    subst h0
    simp [Addr.add]⟩⟩
theorem RdN.step {k : IntKind} {w w' : World} {v : Value} {l : List Nat} (h : RdN k w w.heap.size v l) (hb : Below w.heap.size w w') : RdN k w' w'.heap.size v l := (h.below hb).more hb.size
theorem RdI.more {k : IntKind} {w : World} {B B' : Nat} {v : Value} {l : List Int} (h : RdI k w B v l) (hB : B ≤ B') : RdI k w B' v l := by
  obtain ⟨A, c, hv, hc, hm, hr⟩ := h
  refine ⟨A, c, hv, hc, hm, fun i hi => ?_⟩
  obtain ⟨ad, h1, h2, h3⟩ := hr i hi
  exact ⟨ad, h1, by omega, h3⟩
theorem RdI.step {k : IntKind} {w w' : World} {v : Value} {l : List Int} (h : RdI k w w.heap.size v l) (hb : Below w.heap.size w w') : RdI k w' w'.heap.size v l := (h.below hb).more hb.size
/-- It returns a list of numbers of its own; what was there is as it was. -/
def RetL (k : IntKind) (e : TypeId) (l : List Nat) (w : World) : Ending → World → Prop := fun en w' =>
  ∃ v, en = .returned v ∧ OwnN k e w' w.heap.size v l ∧ Below w.heap.size w w'
theorem RetL.mk {k : IntKind} {e : TypeId} {l : List Nat} {w w' : World} {x v : Value} (hx : x = v) (ho : OwnN k e w' w.heap.size v l) (hb : Below w.heap.size w w') : RetL k e l w (.returned x) w' :=
  ⟨v, by rw [hx], ho, hb⟩
/-- Two texts, as the walk compares them. -/
theorem text_eq {s t : ByteArray} (h : s = t) : (s.toList == t.toList) = true := by rw [h]; exact beq_self_eq_true _
theorem text_ne {s t : ByteArray} (h : ¬ s = t) : (s.toList == t.toList) = false := beq_eq_false_iff_ne.2 fun e => h (by
  rw [ByteArray.toList_eq, ByteArray.toList_eq] at e
  exact Go.WideShapes.bytes_inj e)
end Go.VB
namespace Go.Proofs.YtnmlajmaffiigaaGreatDoor
open Go.RowKit Go.VB
theorem Tryz.inf8 : (Tryz.prog.info? 5).map (fun i => (i.zero, i.size, i.bytes)) = some (some (.int .u8 0), 1, 1) := by kernel_rfl
theorem Tryz.inf32 : (Tryz.prog.info? 77).map (fun i => (i.zero, i.size, i.bytes)) = some (some (.int .u32 0), 1, 4) := by kernel_rfl
theorem Tryz.infInt : (Tryz.prog.info? 3).map (fun i => (i.zero, i.size, i.bytes)) = some (some (.int .i64 0), 1, 8) := by kernel_rfl
end Go.Proofs.YtnmlajmaffiigaaGreatDoor
