/- Several texts in one: Base Mem Args Kit MemV. -/
import Derived.Test.YtbolbbngncnecaaGreatRows
import Derived.WalkKit
import Derived.WalkSpells
import Derived.WalkLawsBesides
import Derived.ProofKit
import Derived.OpenShut
import Derived.ShutString
import Derived.ChangeOld
import Derived.SizedLaws
import Derived.JoinedOf
import Derived.Lib.Hide
import Derived.Laws.AppendOwnNone
import Derived.Lib.SmallJoins
import Derived.ChangeSlices
import Derived.RegionTactic
import Derived.ChangeAlike
import Derived.Deep.Grids
/- General lemmas: how a walk that returns true becomes the stated row; posts behind names; small facts on worlds, bytes and strings. -/
namespace Go.VB
open Go.RowKit Go.ChangeShapes Go.WideShapes Go.ChangeAt

/-- It returns v and the world is as it was. -/
def Ret (v : Value) (w : World) : Ending → World → Prop := fun e w' => e = .returned v ∧ w = w'
/-- It returns v; what was there is as it was. -/
def RetB (v : Value) (w : World) : Ending → World → Prop := fun e w' => e = .returned v ∧ Below w.heap.size w w'

theorem vint {k : IntKind} {a b : Int} (h : a = b) : Value.int k a = Value.int k b := by rw [h]
theorem Ret.mk {v v' : Value} {w : World} (h : v' = v) : Ret v w (.returned v') w := ⟨by rw [h], rfl⟩
theorem RetB.mk {v v' : Value} {w w' : World} (h : v' = v) (hb : Below w.heap.size w w') : RetB v w (.returned v') w' := ⟨by rw [h], hb⟩
theorem Ret.toB {v : Value} {w : World} {e : Ending} {w' : World} (h : Ret v w e w') : RetB v w e w' := by
  obtain ⟨h1, h2⟩ := h; subst h2; exact ⟨h1, Below.refl _ _⟩

theorem bel_trans {W a b : World} (h1 : Below W.heap.size W a) (h2 : Below a.heap.size a b) : Below W.heap.size W b := h1.trans (h2.mono h1.size)

section lift
variable {H : Type} {enc : TypeId × Value → H} {P : Program}

theorem trodAll_below (hl : laidOutB P = true) {W W' : World} (hb : Below W.heap.size W W') :
    ∀ (ts : List TypeId) (vs : List Value) (ds : List (DataW H)) (ps : List MemPlace), (∀ t ∈ ts, P.readableRec t = true ∧ t < P.types.size) →
      (∀ x ∈ ps, x.block < W.heap.size) → DataW.TrodAll enc P W 0 (fun _ => true) true ts vs ds ps →
      DataW.TrodAll enc P W' 0 (fun b => decide (b < W.heap.size)) true ts vs ds ps := by
  intro ts
  induction ts with
  | nil =>
    intro vs ds ps _ _ h
    cases vs <;> cases ds <;> simp_all [DataW.TrodAll]
  | cons t ts ih =>
    intro vs ds ps hr hlt h
    cases vs with
    | nil => simp [DataW.TrodAll] at h
    | cons v vs =>
      cases ds with
      | nil => simp [DataW.TrodAll] at h
      | cons d ds =>
        obtain ⟨p, q, h1, h2, rfl⟩ := h
        refine ⟨p, q, ?_, ?_, rfl⟩
        · exact Below.trod hl (hr t (List.mem_cons_self ..)).1 (hr t (List.mem_cons_self ..)).2 h1 hb (fun x hx => hlt x (List.mem_append_left _ hx))
        · exact ih vs ds q (fun t ht => hr t (List.mem_cons_of_mem _ ht)) (fun x hx => hlt x (List.mem_append_right _ hx)) h2

theorem trodAll_length {w : World} {base : Nat} {spare : Nat → Bool} {held : Bool} :
    ∀ (ts : List TypeId) (vs : List Value) (ds : List (DataW H)) (ps : List MemPlace), DataW.TrodAll enc P w base spare held ts vs ds ps → ds.length = ts.length := by
  intro ts
  induction ts with
  | nil => intro vs ds ps h; cases vs <;> cases ds <;> simp_all [DataW.TrodAll]
  | cons t ts ih =>
    intro vs ds ps h
    cases vs with
    | nil => simp [DataW.TrodAll] at h
    | cons v vs =>
      cases ds with
      | nil => simp [DataW.TrodAll] at h
      | cons d ds =>
        obtain ⟨p, q, _, h2, _⟩ := h
        simp [ih vs ds q h2]

/-- A law: whatever can be read among its arguments, the walk returns true and leaves what was there. -/
theorem law_lifted {C : Checked} {f : FuncId} {fn : Func} {s : ChangeSpec} {tb : TypeId} {os : Os} (started : os.Started)
    (own : ownKnob C.prog.godebug = none) (laidOut : laidOutB C.prog = true) (noInit : C.prog.inits.idxOf? f = none) (hfn : C.prog.funcs[f]? = some fn)
    (witness : ∃ (w : World) (tape : Tape) (i : Input), w.os = os ∧ (w.forCall tape i).Shaped C.prog ∧ i.vars = [] ∧ Input.okWide C.prog (w.forCall tape i) .any w.heap.size f i ∧
      s.pre6 enc C.prog fn [] false (w.forCall tape i).memory i.args ∧ ({ modest := false } : Assume).holds C.prog (lone (Frame.enter C.prog f i.args .normal) [] (w.forCall tape i)))
    (hvars : s.vars = []) (hres : fn.resultTypes = #[tb]) (hbool : C.prog.underlying tb = some .bool)
    (hparams0 : (fn.params.toList.all fun t => C.prog.readableRec t && decide (t < C.prog.types.size)) = true)
    (hspec : ∀ ds : List (DataW H), ds.length = fn.params.toList.length → s.fn H ds = { results := [.lit (.bool true)], args := ds })
    (walk : ∀ (W : World) (base : Nat) (args : Array Value) (ds : List (DataW H)) (p : List MemPlace),
      (∀ (j : Nat) t v, fn.params[j]? = some t → args[j]? = some v → Value.okWide C.prog W .any base t v) →
      DataW.TrodAll enc C.prog W 0 (fun _ => true) true fn.params.toList args.toList ds p →
      (DataW.weightsEach C.prog fn.params.toList ds).all (· ≤ reachBytes) = true →
      (∀ x ∈ p, x.block < W.heap.size) →
      Calls C.prog f args W (RetB (.bool true) W)) :
    ReturnsInHanded {} C os f .any (s.pre6 enc C.prog fn [] false) (s.post enc C.prog fn false true false false) := by
  have hparams : ∀ t ∈ fn.params.toList, C.prog.readableRec t = true ∧ t < C.prog.types.size := fun t ht => by
    have := List.all_eq_true.1 hparams0 t ht
    simpa using this
  refine returnsInHanded_of_change_sized own started noInit hfn witness ?_
  intro W base args ds gs before hval hW _ hsz _
  have hW' := hW
  obtain ⟨p, q, hA, hV, rfl, _, _⟩ := hW
  rw [hvars] at hV
  obtain ⟨rfl, rfl⟩ := trodVars_none hV
  have hlt : ∀ x ∈ p, x.block < W.heap.size := fun x hx => hW'.lt x (List.mem_append_left _ hx)
  have hsz' : (DataW.weightsEach C.prog fn.params.toList ds).all (· ≤ reachBytes) = true := by
    have e : s.plain.varTypes C.prog = [] := by simp [ChangeSpec.plain, DataSpec.varTypes, hvars]
    rw [e, List.append_nil, List.append_nil] at hsz
    exact hsz
  refine (walk W base args ds p hval hA hsz' hlt).mono fun e W' he => ?_
  obtain ⟨rfl, hb⟩ := he
  have hs := hspec ds (trodAll_length _ _ _ _ hA)
  have e0 : ds ++ [] = ds := List.append_nil ds
  refine ⟨_, rfl, ds, [], p ++ [], [], p, [], hW', ?_, ?_, ?_, hb.frame _, fun h => by cases h⟩
  · rw [e0, hs, hres]
    exact trodAll_mk1 (shut_bool hbool _)
  · rw [e0, hs]
    exact trodAll_below laidOut hb _ _ _ _ hparams hlt hA
  · rw [e0, hs, hvars]
    exact rfl
end lift

/-! ### bytes and strings -/
/-- The string of a list of bytes. -/
def str (l : List UInt8) : ByteArray := ⟨l.toArray⟩
theorem str_toList (l : List UInt8) : (str l).data.toList = l := rfl
theorem str_size (l : List UInt8) : (str l).size = l.length := by simp [str, ByteArray.size]
theorem str_of (s : ByteArray) : str s.data.toList = s := rfl
theorem str_append (a b : List UInt8) : str a ++ str b = str (a ++ b) := by
  apply ByteArray.ext; simp [str]
theorem str_inj {a b : List UInt8} (h : str a = str b) : a = b := by
  have := congrArg (fun s : ByteArray => s.data.toList) h
  simpa [str_toList] using this
theorem str_push (l : List UInt8) (c : UInt8) : (str l).push c = str (l ++ [c]) := by
  apply ByteArray.ext; simp [str, ByteArray.push]
theorem fold_push (ns : List Int) : ∀ (l : List UInt8), ns.foldl (fun r n => r.push (UInt8.ofNat n.toNat)) (str l) = str (l ++ ns.map fun n => UInt8.ofNat n.toNat) := by
  induction ns with
  | nil => intro l; simp
  | cons n ns ih => intro l; simp only [List.foldl_cons, str_push, ih]; simp

/-- string(b) of a row whose cells are known. -/
theorem run_string_of_row {P : Program} (w : World) (src dst e : TypeId) (a : Addr) (l c : Nat) (bs : List UInt8)
    (hs : P.underlying src = some (.slice e)) (he : P.underlying e = some (.int .u8)) (hd : P.underlying dst = some .string)
    (_hl : bs.length = l) (hc : (loadCells a l).run P w = .ok (bs.map (fun b => Value.int .u8 (b.toNat : Int))).toArray w) :
    (convert src dst (.slice (some a) l c)).run P w = .ok (.string (str bs)) w := by
  rw [run_convert_bytes_string w src dst e (some a) l c hs he hd]
  have h := run_bytesToString (P := P) w a l c (bs.map fun b => (b.toNat : Int)) (by simpa [List.map_map, Function.comp_def] using hc)
  rw [h]
  congr 1
  have hf := fold_push (bs.map fun b => (b.toNat : Int)) []
  rw [show str [] = ByteArray.empty from rfl] at hf
  rw [hf]
  simp [List.map_map, Function.comp_def]
end Go.VB

namespace Go.VB
open Go.RowKit
/-- A byte as a value. -/
def bv (b : UInt8) : Value := .int .u8 (b.toNat : Int)
/-- The slice value v, of bytes, is the call's own and holds bs. -/
def OwnB (e : TypeId) (w : World) (base : Nat) (v : Value) (bs : List UInt8) : Prop := w.ownsRow base e 1 v bs.length (bs.map bv)

theorem OwnB.nil (e : TypeId) (w : World) (base : Nat) : OwnB e w base (.slice none 0 0) [] := World.ownsRow_nil w base e 1
theorem OwnB.alloc {e : TypeId} {w : World} {base : Nat} {v : Value} {bs : List UInt8} (h : OwnB e w base v bs) (o : Obj) : OwnB e (w.alloc o) base v bs := World.ownsRow.alloc h o
theorem OwnB.drew {e : TypeId} {w : World} {base : Nat} {v : Value} {bs : List UInt8} (h : OwnB e w base v bs) : OwnB e w.drew base v bs := h

theorem u8_ofInt {c : Int} (h0 : 0 ≤ c) (h1 : c < 256) : bv (UInt8.ofNat c.toNat) = .int .u8 c := by
  unfold bv
  have : ((UInt8.ofNat c.toNat).toNat : Int) = c := by
    rw [UInt8.toNat_ofNat', Nat.mod_eq_of_lt (by omega)]; omega
  rw [this]

/-- append of one byte onto a row of the call's own. -/
theorem wpl_app1 {P : Program} {w : World} {ops : Array Oper} {rest : List Oper} {o : Oper} {a : Act} {Q : Exit → Act → World → Prop} (hgd : o.guard = none) (s x : Operand) (t : TypeId)
    (ho : o.op = .call { callee := .builtin .append, args := #[s, x], argTypes := #[t, t] })
    (base : Nat) (e : TypeId) (ht : P.underlying t = some (.slice e)) (hinfo : (P.info? e).map (fun i => (i.zero, i.size, i.bytes)) = some (some (.int .u8 0), 1, 1))
    (v : Value) (bs : List UInt8) (hs : a.eval s = v) (hown : OwnB e w base v bs)
    (g : Nat) (m : Nat) (c : Int) (hx : a.eval x = .slice (some ⟨g, 0, none⟩) 1 m) (hcell : w.cell? ⟨g, 0, none⟩ = some (.int .u8 c)) (h0 : 0 ≤ c) (h1 : c < 256)
    (hlen : bs.length < 1099511627776) (hbase : base ≤ w.heap.size)
    (h : ∀ v' w', OwnB e w' base v' (bs ++ [UInt8.ofNat c.toNat]) → Below base w w' → wpList P ops Q rest (a.put o.dst v') w') : wpList P ops Q (o :: rest) a w := by
  obtain ⟨i, hi, hz, hsz, hby⟩ := info_parts hinfo
  refine wpList_append_own w hgd s x t ho base e i (.int .u8 0) 1 1 ht hi hz hsz hby rfl (by decide) v bs.length (bs.map bv) hs hown ⟨g, 0, none⟩ 1 m [.int .u8 c] hx rfl ?_ ?_ ?_ ?_ hbase ?_
  · intro j u hj
    match j, hj with
    | 0, hj => simp at hj; subst hj; simpa [Addr.add] using hcell
  · intro u hu; simp at hu; subst hu; rfl
  · unfold maxLen; omega
  · omega
  · intro v' w' ho' hg _
    refine h v' w' ?_ ?_
    · unfold OwnB
      rw [List.map_append, List.map_cons, List.map_nil, u8_ofInt h0 h1, List.length_append]
      exact ho'
    · exact (Below.refl _ _).grown hg hbase (fun k hk => (World.ownsRow.lt hown k hk).1)

/-- string(b) of a row of the call's own. -/
theorem run_string_of_own {P : Program} {w : World} (src dst e : TypeId) {base : Nat} {v : Value} {bs : List UInt8}
    (hs : P.underlying src = some (.slice e)) (he : P.underlying e = some (.int .u8)) (hd : P.underlying dst = some .string) (h : OwnB e w base v bs) :
    (convert src dst v).run P w = .ok (.string (str bs)) w := by
  have h' : w.ownsRow base e 1 v bs.length (bs.map bv) := h
  rcases h'.2 with ⟨rfl, hn⟩ | ⟨g, cap, cur, rfl, _⟩
  · have : bs = [] := List.eq_nil_of_length_eq_zero hn
    subst this
    rw [run_convert_bytes_string w src dst e none 0 0 hs he hd]
    unfold Conv.bytesToString
    simp [Sem.run_pure]
    rfl
  · refine run_string_of_row w src dst e _ _ cap bs hs he hd rfl ?_
    have hc := World.ownsRow.cells h' (g := g) rfl
    have := run_loadCells_list (P := P) (w := w) ⟨g, 0, none⟩ (bs.map bv) hc
    rw [List.length_map] at this
    exact this
end Go.VB

namespace Go.VB
open Go.RowKit
theorem cell_new1 (w : World) (v : Value) (e : TypeId) : (w.alloc (.cells #[v] e)).cell? ⟨w.heap.size, 0, none⟩ = some v := by
  simp
end Go.VB

namespace Go.VB
open Go.RowKit
/-- string([]byte{c}): the row was laid just before. -/
theorem run_string1 {P : Program} (src dst e : TypeId) (hs : P.underlying src = some (.slice e)) (he : P.underlying e = some (.int .u8)) (hd : P.underlying dst = some .string)
    (W : World) (c : Int) (m : Nat) :
    (convert src dst (.slice (some ⟨W.heap.size, 0, none⟩) 1 m)).run P (W.alloc (.cells #[.int .u8 c] e)) = .ok (.string (str [UInt8.ofNat c.toNat])) (W.alloc (.cells #[.int .u8 c] e)) := by
  rw [run_convert_bytes_string _ src dst e _ _ _ hs he hd]
  have h := run_bytesToString (P := P) (W.alloc (.cells #[.int .u8 c] e)) ⟨W.heap.size, 0, none⟩ 1 m [c] (by
    have := run_loadCells_list (P := P) (w := W.alloc (.cells #[.int .u8 c] e)) ⟨W.heap.size, 0, none⟩ [.int .u8 c] (by
      intro j v hj
      match j, hj with
      | 0, hj => simp at hj; subst hj; simp [Addr.add])
    simpa using this)
  rw [h]
  rfl

theorem run_string1_at {P : Program} (src dst e : TypeId) (hs : P.underlying src = some (.slice e)) (he : P.underlying e = some (.int .u8)) (hd : P.underlying dst = some .string)
    (W : World) (g : Nat) (c : Int) (m : Nat) (hc : W.cell? ⟨g, 0, none⟩ = some (.int .u8 c)) :
    (convert src dst (.slice (some ⟨g, 0, none⟩) 1 m)).run P W = .ok (.string (str [UInt8.ofNat c.toNat])) W := by
  rw [run_convert_bytes_string _ src dst e _ _ _ hs he hd]
  have h := run_bytesToString (P := P) W ⟨g, 0, none⟩ 1 m [c] (by
    have := run_loadCells_list (P := P) (w := W) ⟨g, 0, none⟩ [.int .u8 c] (by
      intro j v hj
      match j, hj with
      | 0, hj => simp at hj; subst hj; simpa [Addr.add] using hc)
    simpa using this)
  rw [h]
  rfl
theorem run_string1_drew {P : Program} (src dst e : TypeId) (hs : P.underlying src = some (.slice e)) (he : P.underlying e = some (.int .u8)) (hd : P.underlying dst = some .string)
    (W : World) (c : Int) (m : Nat) :
    (convert src dst (.slice (some ⟨W.heap.size, 0, none⟩) 1 m)).run P (W.alloc (.cells #[.int .u8 c] e)).drew = .ok (.string (str [UInt8.ofNat c.toNat])) (W.alloc (.cells #[.int .u8 c] e)).drew :=
  run_string1_at src dst e hs he hd _ _ c m (cell_new1 W (.int .u8 c) e)

/-- Byte k of a string, as a number; 0 behind its end. -/
def bN (s : ByteArray) (k : Nat) : Nat := (s.data.toList.getD k 0).toNat
theorem get_bN (s : ByteArray) : ∀ (n : Nat) (h : n < s.size), (s[n]'h).toNat = bN s n := fun n h => by
  unfold bN
  rw [List.getD_eq_getElem?_getD, List.getElem?_eq_getElem (by simpa using h)]
  rfl
theorem bN_lt (s : ByteArray) (k : Nat) : bN s k < 256 := UInt8.toNat_lt _
theorem bN_str (l : List UInt8) (k : Nat) : bN (str l) k = (l.getD k 0).toNat := rfl
theorem extract_list (s : ByteArray) (i j : Nat) : (s.extract i j).data.toList = (s.data.toList.drop i).take (j - i) := by
  rw [ByteArray.data_extract, Array.toList_extract, List.extract_eq_take_drop]
theorem extract_str (s : ByteArray) (i j : Nat) : s.extract i j = str ((s.data.toList.drop i).take (j - i)) := by
  rw [← extract_list]; rfl
theorem size_list (s : ByteArray) : s.data.toList.length = s.size := Array.length_toList
theorem extract_end (s : ByteArray) (i : Nat) : s.extract i s.size = str (s.data.toList.drop i) := by
  rw [extract_str, List.take_of_length_le]
  rw [List.length_drop, size_list]
  exact Nat.le_refl _
end Go.VB

namespace Go.VB
/-- a + b on strings of known bytes, as the walk takes it. -/
theorem run_add_str {P : Program} (a : List UInt8) (n : Nat) (ha : a.length ≤ n) (hn : n ≤ 4611686018427387904) :
    ∀ (c : UInt8) (w : World), (Op.stringOp .add (str a) (str [c])).run P w = .ok (.string (str (a ++ [c]))) w := by
  intro c w
  rw [run_string_add_sum w (str a) (str [c]) (by rw [str_size, str_size]; simp; omega), str_append]
end Go.VB

/- Words for memory: rows of whole numbers that a call owns, slices that can be read, and the laws for making, copying and storing. -/
namespace Go.VB
open Go.RowKit

/-- The values of a list of numbers. -/
def nvs (k : IntKind) (l : List Nat) : List Value := l.map fun (n : Nat) => Value.int k (n : Int)
theorem nvs_len (k : IntKind) (l : List Nat) : (nvs k l).length = l.length := List.length_map _
theorem nvs_append (k : IntKind) (a b : List Nat) : nvs k (a ++ b) = nvs k a ++ nvs k b := List.map_append
theorem nvs_set (k : IntKind) (l : List Nat) (i x : Nat) : (nvs k l).set i (.int k (x : Int)) = nvs k (l.set i x) := by
  unfold nvs; rw [List.map_set]
theorem nvs_get (k : IntKind) (l : List Nat) (i : Nat) (h : i < l.length) : (nvs k l)[i]? = some (.int k (l.getD i 0 : Nat)) := by
  unfold nvs; rw [List.getElem?_map, List.getD_eq_getElem?_getD, List.getElem?_eq_getElem h]; rfl
theorem nvs_one (k : IntKind) (l : List Nat) : ∀ u ∈ nvs k l, u.oneCell' = true := by
  intro u hu
  simp only [nvs, List.mem_map] at hu
  obtain ⟨x, _, rfl⟩ := hu
  rfl
theorem nvs_zeros (k : IntKind) (n : Nat) : List.replicate n (Value.int k 0) = nvs k (List.replicate n 0) := by
  unfold nvs; rw [List.map_replicate]; rfl

/-- The slice v is the call's own (its row lies at or above block base, from its head on) and holds the numbers l. -/
def OwnN (k : IntKind) (e : TypeId) (w : World) (base : Nat) (v : Value) (l : List Nat) : Prop := w.ownsRow base e 1 v l.length (nvs k l)
/-- The same at a known block g with capacity c. -/
def RowN (k : IntKind) (e : TypeId) (w : World) (base g c : Nat) (l : List Nat) : Prop := OwnN k e w base (.slice (some ⟨g, 0, none⟩) l.length c) l

section
variable {k : IntKind} {e : TypeId} {w w' : World} {base g c : Nat} {v : Value} {l : List Nat}

theorem OwnN.nil (k : IntKind) (e : TypeId) (w : World) (base : Nat) : OwnN k e w base (.slice none 0 0) [] := World.ownsRow_nil w base e 1
theorem OwnN.forms (h : OwnN k e w base v l) : (v = .slice none 0 0 ∧ l = []) ∨ ∃ g c, v = .slice (some ⟨g, 0, none⟩) l.length c ∧ RowN k e w base g c l := by
  rcases Joins.ownsRow_forms h with ⟨h1, h2⟩ | ⟨g, c, rfl⟩
  · exact .inl ⟨h1, List.eq_nil_of_length_eq_zero h2⟩
  · exact .inr ⟨g, c, rfl, h⟩
theorem OwnN.lower (h : OwnN k e w base v l) {b' : Nat} (hb : b' ≤ base) : OwnN k e w b' v l := Joins.ownsRow_le h hb
theorem OwnN.drew (h : OwnN k e w base v l) : OwnN k e w.drew base v l := h
theorem OwnN.alloc (h : OwnN k e w base v l) (o : Obj) : OwnN k e (w.alloc o) base v l := World.ownsRow.alloc h o
theorem OwnN.lt (h : OwnN k e w base v l) : ∀ b, v.ownBlock = some b → base ≤ b ∧ b < w.heap.size := World.ownsRow.lt h
/-- What a call leaves that turns nothing that was there. -/
theorem OwnN.below (h : OwnN k e w base v l) (hb : Below w.heap.size w w') : OwnN k e w' base v l := by
  refine World.ownsRow.kept (row := none) h ⟨hb.os, hb.tape, hb.output, hb.size, fun b hlt _ => hb.block b hlt⟩ ?_
  rcases hv : v.ownBlock with _ | b
  · exact .inl rfl
  · exact .inr (by simp)
theorem RowN.lt (h : RowN k e w base g c l) : base ≤ g ∧ g < w.heap.size := World.ownsRow.lt h g rfl
theorem RowN.own (h : RowN k e w base g c l) : OwnN k e w base (.slice (some ⟨g, 0, none⟩) l.length c) l := h
theorem RowN.below (h : RowN k e w base g c l) (hb : Below w.heap.size w w') : RowN k e w' base g c l := OwnN.below h hb
theorem RowN.drew (h : RowN k e w base g c l) : RowN k e w.drew base g c l := h
theorem RowN.alloc (h : RowN k e w base g c l) (o : Obj) : RowN k e (w.alloc o) base g c l := OwnN.alloc h o
theorem RowN.lower (h : RowN k e w base g c l) {b' : Nat} (hb : b' ≤ base) : RowN k e w b' g c l := OwnN.lower h hb
theorem RowN.cell (h : RowN k e w base g c l) (j : Nat) (hj : j < l.length) : w.cell? ⟨g, j, none⟩ = some (.int k (l.getD j 0 : Nat)) := by
  rw [World.ownsRow.cellAt h j (by omega), nvs_get k l j hj]
theorem RowN.frozen (h : RowN k e w base g c l) (j : Nat) : w.frozen? ⟨g, j, none⟩ = false := World.ownsRow.frozenAt h j
theorem RowN.store (h : RowN k e w base g c l) (j x : Nat) : RowN k e (w.setCell ⟨g, j, none⟩ (.int k (x : Int))) base g c (l.set j x) := by
  have := (World.ownsRow.stored h j (.int k (x : Int))).1
  unfold RowN OwnN
  rw [List.length_set, ← nvs_set]
  exact this
theorem RowN.made (k : IntKind) (e : TypeId) (w : World) (base n : Nat) (hb : base ≤ w.heap.size) (hm : n ≤ maxLen) :
    RowN k e (w.alloc (.cells (madeCells #[.int k 0] n) e)) base w.heap.size n (List.replicate n 0) := by
  have := World.ownsRow_lit (base := base) (e := e) (size := 1) w (madeCells #[.int k 0] n) n hb hm (by rw [size_madeCells, Nat.mul_one])
  rw [toList_madeCells_one, nvs_zeros] at this
  unfold RowN OwnN
  rw [List.length_replicate]
  exact this

/-- The slice v can be read and holds the numbers l; it lies below block B. -/
def RdN (k : IntKind) (w : World) (B : Nat) (v : Value) (l : List Nat) : Prop :=
  ∃ A c, v = .slice A l.length c ∧ l.length ≤ c ∧ c ≤ maxLen ∧ ∀ i, i < l.length → ∃ ad, A = some ad ∧ ad.block < B ∧ w.cell? (ad.add i) = some (.int k (l.getD i 0 : Nat))
theorem block_add (a : Addr) (n : Nat) : (a.add n).block = a.block := by unfold Addr.add; split <;> rfl
theorem RdN.nil (k : IntKind) (w : World) (B : Nat) : RdN k w B (.slice none 0 0) [] := ⟨none, 0, rfl, Nat.le_refl _, Nat.zero_le _, fun _ hi => absurd hi (Nat.not_lt_zero _)⟩
theorem RdN.more {B B' : Nat} (h : RdN k w B v l) (hB : B ≤ B') : RdN k w B' v l := by
  obtain ⟨A, c, hv, hc, hm, hr⟩ := h
  refine ⟨A, c, hv, hc, hm, fun i hi => ?_⟩
  obtain ⟨ad, h1, h2, h3⟩ := hr i hi
  exact ⟨ad, h1, by omega, h3⟩
theorem RdN.below {B : Nat} (h : RdN k w B v l) (hb : Below B w w') : RdN k w' B v l := by
  obtain ⟨A, c, hv, hc, hm, hr⟩ := h
  refine ⟨A, c, hv, hc, hm, fun i hi => ?_⟩
  obtain ⟨ad, h1, h2, h3⟩ := hr i hi
  exact ⟨ad, h1, h2, by rw [hb.cell (by rw [block_add]; exact h2)]; exact h3⟩
theorem RowN.read (h : RowN k e w base g c l) : RdN k w w.heap.size (.slice (some ⟨g, 0, none⟩) l.length c) l := by
  have hlt := h.lt.2
  have hc : l.length ≤ c ∧ c ≤ maxLen := by
    have h' : w.ownsRow base e 1 (.slice (some ⟨g, 0, none⟩) l.length c) l.length (nvs k l) := h
    rcases h'.2 with ⟨h1, _⟩ | ⟨g', c', cur, h1, _, _, h3, h4, _⟩
    · cases h1
    · cases h1; exact ⟨h3, h4⟩
  refine ⟨_, c, rfl, hc.1, hc.2, fun i hi => ⟨_, rfl, hlt, ?_⟩⟩
  have := h.cell i hi
  unfold Addr.add
  by_cases h0 : i = 0
  · subst h0; simpa using this
  · simpa [h0] using this
theorem OwnN.read (h : OwnN k e w base v l) : RdN k w w.heap.size v l := by
  rcases h.forms with ⟨rfl, rfl⟩ | ⟨g, c, rfl, hr⟩
  · exact RdN.nil _ _ _
  · exact hr.read
end

/-- make([]T, n) of whole numbers. -/
theorem run_makeN {P : Program} {t e : TypeId} {k : IntKind} {bytes : Nat} (ht : P.underlying t = some (.slice e)) (hinfo : (P.info? e).map (fun i => (i.zero, i.size, i.bytes)) = some (some (.int k 0), 1, bytes))
    (n : Nat) (hb : bytes * n ≤ 281474976710656) (hm : n ≤ maxLen) (w : World) :
    (Instr.makeSlice t (.int .i64 (n : Int)) (.int .i64 (n : Int))).run P w = .ok (.slice (some ⟨w.heap.size, 0, none⟩) n n) (w.alloc (.cells (madeCells #[.int k 0] n) e)) := by
  obtain ⟨i, hi, hz, hsz, hby⟩ := info_parts hinfo
  unfold maxLen at hm
  have h := run_make (P := P) w t e i (.int k 0) ht hi hz .i64 .i64 n n (by omega) (Int.le_refl _) (by rw [hby, ← Int.natCast_mul]; omega) (by omega)
  rw [Int.toNat_natCast, hsz, Nat.mul_one] at h
  exact h

/-- append(s, x...) of whole numbers onto a row of the call's own. -/
theorem wpl_appN {P : Program} {w : World} {ops : Array Oper} {rest : List Oper} {o : Oper} {a : Act} {Q : Exit → Act → World → Prop} (hgd : o.guard = none) (s x : Operand) (t : TypeId)
    (ho : o.op = .call { callee := .builtin .append, args := #[s, x], argTypes := #[t, t] })
    (base : Nat) (e : TypeId) (k : IntKind) (bytes : Nat) (ht : P.underlying t = some (.slice e)) (hinfo : (P.info? e).map (fun i => (i.zero, i.size, i.bytes)) = some (some (.int k 0), 1, bytes))
    (v : Value) (l : List Nat) (hs : a.eval s = v) (hown : OwnN k e w base v l) (B : Nat) (vx : Value) (m : List Nat) (hx : a.eval x = vx) (hr : RdN k w B vx m)
    (hlen : l.length + m.length ≤ maxLen) (hbytes : (l.length + m.length) * bytes ≤ 140737488355328) (hbase : base ≤ w.heap.size)
    (h : ∀ v' w', OwnN k e w' base v' (l ++ m) → Below base w w' → w.grownBy w' v.ownBlock → wpList P ops Q rest (a.put o.dst v') w') : wpList P ops Q (o :: rest) a w := by
  obtain ⟨i, hi, hz, hsz, hby⟩ := info_parts hinfo
  have fin : ∀ v' w', w'.ownsRow base e 1 v' (l.length + m.length) (nvs k l ++ nvs k m) → w.grownBy w' v.ownBlock → wpList P ops Q rest (a.put o.dst v') w' := fun v' w' ho' hg => by
    refine h v' w' ?_ ((Below.refl _ _).grown hg hbase (fun b hb => (OwnN.lt hown b hb).1)) hg
    unfold OwnN
    rw [List.length_append, nvs_append]; exact ho'
  obtain ⟨A, c, rfl, hc, hm, hcell⟩ := hr
  rcases A with _ | ad
  · have hm0 : m.length = 0 := by
      rcases Nat.eq_zero_or_pos m.length with h0 | h0
      · exact h0
      · obtain ⟨ad, h1, _⟩ := hcell 0 h0; cases h1
    have hm' : m = [] := List.eq_nil_of_length_eq_zero hm0
    subst hm'
    refine wpList_plain hgd fun K hK => ?_
    have hrun : (Builtin.append_ #[t, t] o.type #[v, .slice none 0 c]).run P w = .ok v w := by
      rcases hown.2 with ⟨rfl, _⟩ | ⟨g, cap, cur, rfl, _, _, hnc, _⟩
      · simp [Builtin.append_, run_underlying ht, sizeOf, typeInfo, hi, Builtin.lenOf, Builtin.firstCells]
      · simp [Builtin.append_, run_underlying ht, sizeOf, typeInfo, hi, Builtin.lenOf, Builtin.firstCells, hnc, storeCells]
    unfold Oper.wp
    simp [execOp, ho, resolve, invoke, builtin, hs, hx, hrun, Result.andThen]
    exact hK _ _ (fin v w (by simpa [nvs, OwnN] using hown) (World.grownBy.refl w _))
  · refine wpList_append_own w hgd s x t ho base e i (.int k 0) 1 bytes ht hi hz hsz hby rfl (by decide) v l.length (nvs k l) hs hown ad m.length c (nvs k m) hx (by rw [nvs_len]; omega) ?_ (nvs_one k m) hlen hbytes hbase ?_
    · intro j u hj
      have hjl : j < m.length := by
        rcases Nat.lt_or_ge j m.length with h1 | h1
        · exact h1
        · rw [List.getElem?_eq_none (by rw [nvs_len]; exact h1)] at hj; cases hj
      rw [nvs_get k m j hjl] at hj
      obtain ⟨ad', h1, _, h3⟩ := hcell j hjl
      cases h1
      rw [h3]; exact hj
    · intro v' w' ho' hg _
      exact fin v' w' ho' hg

/-- It returns a text and a code; what was there is as it was. -/
def RetSE (s : ByteArray) (c : Nat) (w : World) : Ending → World → Prop := RetB (.tuple #[.string s, .int .i64 (c : Int)]) w
/-- It returns a list of numbers of its own and a code; what was there is as it was. -/
def RetNE (k : IntKind) (e : TypeId) (l : List Nat) (c : Nat) (w : World) : Ending → World → Prop := fun en w' =>
  ∃ v, en = .returned (.tuple #[v, .int .i64 (c : Int)]) ∧ OwnN k e w' w.heap.size v l ∧ Below w.heap.size w w'
end Go.VB

/- Arguments that are slices of whole numbers: what can be read of them. -/
namespace Go.VB
open Go.RowKit Go.ChangeShapes Go.WideShapes Go.ChangeAt

/-- The slice v can be read and holds the whole numbers zs; it lies below block B. -/
def RdI (k : IntKind) (w : World) (B : Nat) (v : Value) (zs : List Int) : Prop :=
  ∃ A c, v = .slice A zs.length c ∧ zs.length ≤ c ∧ c ≤ maxLen ∧ ∀ i, i < zs.length → ∃ ad, A = some ad ∧ ad.block < B ∧ w.cell? (ad.add i) = some (.int k (zs.getD i 0))
theorem RdI.below {k : IntKind} {w w' : World} {B : Nat} {v : Value} {zs : List Int} (h : RdI k w B v zs) (hb : Below B w w') : RdI k w' B v zs := by
  obtain ⟨A, c, hv, hc, hm, hr⟩ := h
  refine ⟨A, c, hv, hc, hm, fun i hi => ?_⟩
  obtain ⟨ad, h1, h2, h3⟩ := hr i hi
  exact ⟨ad, h1, h2, by rw [hb.cell (by rw [block_add]; exact h2)]; exact h3⟩
theorem RdI.toN {k : IntKind} {w : World} {B : Nat} {v : Value} {zs : List Int} (h : RdI k w B v zs) (h0 : ∀ z ∈ zs, 0 ≤ z) : RdN k w B v (zs.map Int.toNat) := by
  obtain ⟨A, c, hv, hc, hm, hr⟩ := h
  refine ⟨A, c, by rw [List.length_map]; exact hv, by rw [List.length_map]; exact hc, hm, fun i hi => ?_⟩
  rw [List.length_map] at hi
  obtain ⟨ad, h1, h2, h3⟩ := hr i hi
  refine ⟨ad, h1, h2, h3.trans ?_⟩
  have hz := h0 _ (List.getElem_mem hi)
  rw [List.getD_eq_getElem?_getD, List.getD_eq_getElem?_getD, List.getElem?_map, List.getElem?_eq_getElem hi]
  simp only [Option.map_some, Option.getD_some]
  rw [Int.toNat_of_nonneg hz]

section
variable {H : Type} {enc : TypeId × Value → H} {P : Program}
theorem open_rdI {r : Reach} {b0 : Nat} {t e : TypeId} {k : IntKind} {w : World} {v : Value} {d : DataW H} {ps : List MemPlace} {held : Bool} (ht : P.underlying t = some (.slice e)) (he : P.underlying e = some (.int k)) (hc : P.cellsOf e = 1)
    (hval : Value.okWide P w r b0 t v) (hd : DataW.Trod enc P w 0 (fun _ => true) held t v d ps) {ts : List TypeId} {ds : List (DataW H)} (hsz : (DataW.weightsEach P ts ds).all (· ≤ reachBytes) = true) {j : Nat} (hj : ts[j]? = some t) (hdj : ds[j]? = some d) :
    ∃ zs, RdI k w w.heap.size v zs ∧ (∀ z ∈ zs, (Lit.int k z).wf = true) ∧ zs.length * P.bytesOf e ≤ 140737488351232 := by
  obtain ⟨A, l, c, rfl⟩ := okWide_slice ht hval
  obtain ⟨fuel, hf⟩ := hd
  rcases open_ints ht he hc hf with ⟨hcs, hx⟩ | ⟨a, len, cap, zs, hcs, _, hl, hm, hz, hx, hcell, hwf⟩
  · simp only [Value.cells, List.cons.injEq, Value.slice.injEq, and_true] at hcs
    obtain ⟨rfl, rfl, rfl⟩ := hcs
    exact ⟨[], ⟨none, 0, rfl, Nat.le_refl _, Nat.zero_le _, fun i hi => absurd hi (Nat.not_lt_zero _)⟩, fun z hz => absurd hz (by simp), by simp⟩
  · simp only [Value.cells, List.cons.injEq, Value.slice.injEq, and_true] at hcs
    obtain ⟨rfl, rfl, rfl⟩ := hcs
    simp only [if_true] at hz
    have hlen : (zs.take l).length = l := by rw [List.length_take]; omega
    refine ⟨zs.take l, ⟨some a, c, by rw [hlen], by rw [hlen]; exact hl, hm, fun i hi => ?_⟩, fun z hz' => hwf z (List.mem_of_mem_take hz'), ?_⟩
    · rw [hlen] at hi
      have hci := hcell i (by omega)
      have hb := World.block_lt_of_cell? w _ hci
      rw [block_add] at hb
      refine ⟨a, rfl, hb, ?_⟩
      rw [hci, List.getD_eq_getElem?_getD, List.getD_eq_getElem?_getD, List.getElem?_take, if_pos hi]
    · obtain ⟨rfl, _⟩ : d = _ ∧ ps = _ := by simpa using hx
      have h := sized_slice hsz hj hdj ht
      rw [hlen]
      have h2 : l ≤ ((lits (H := H) k (zs.take l)).length + (lits (H := H) k (zs.drop l)).length : Nat) := by simp only [lits, List.length_map, hlen]; omega
      refine Nat.le_trans (Nat.mul_le_mul_right _ h2) (Nat.le_trans ?_ (show reachBytes ≤ 140737488351232 by decide))
      exact h
end
theorem wf_u64 {z : Int} (h : (Lit.int .u64 z).wf = true) : 0 ≤ z ∧ z.toNat < 2 ^ 64 := by
  obtain ⟨h1, h2⟩ := bounds_u64 h
  rw [show (2 : Nat) ^ 64 = 18446744073709551616 from by decide]
  omega
end Go.VB

/- General words and walks: Pick, Same, posts of lists, infos of types. -/
namespace Go.VB
open Go.RowKit
theorem RetNE.mk {k : IntKind} {e : TypeId} {l : List Nat} {c : Nat} {w w' : World} {x v : Value} (hx : x = .tuple #[v, .int .i64 (c : Int)]) (ho : OwnN k e w' w.heap.size v l) (hb : Below w.heap.size w w') : RetNE k e l c w (.returned x) w' :=
  ⟨v, by rw [hx], ho, hb⟩
theorem RowN.own_at {k : IntKind} {e : TypeId} {w : World} {base g c n : Nat} {l l' : List Nat} (h : RowN k e w base g c l) (hl : l.length = n) (he : l = l') : OwnN k e w base (.slice (some ⟨g, 0, none⟩) n c) l' := by
  subst hl; subst he; exact h
theorem RdN.one (k : IntKind) (w : World) (x m : Nat) (e : TypeId) (hm : 1 ≤ m) (hm2 : m ≤ maxLen) : RdN k (w.alloc (.cells #[.int k (x : Int)] e)) (w.heap.size + 1) (.slice (some ⟨w.heap.size, 0, none⟩) 1 m) [x] :=
  ⟨_, m, rfl, hm, hm2, fun i hi => ⟨_, rfl, Nat.lt_succ_self _, by
    have h0 : i = 0 := by simp at hi; omega
    subst h0
    simp [Addr.add]⟩⟩
theorem RdN.step {k : IntKind} {w w' : World} {v : Value} {l : List Nat} (h : RdN k w w.heap.size v l) (hb : Below w.heap.size w w') : RdN k w' w'.heap.size v l := (h.below hb).more hb.size
theorem RdI.more {k : IntKind} {w : World} {B B' : Nat} {v : Value} {l : List Int} (h : RdI k w B v l) (hB : B ≤ B') : RdI k w B' v l := by
  obtain ⟨A, c, hv, hc, hm, hr⟩ := h
  refine ⟨A, c, hv, hc, hm, fun i hi => ?_⟩
  obtain ⟨ad, h1, h2, h3⟩ := hr i hi
  exact ⟨ad, h1, by omega, h3⟩
theorem RdI.step {k : IntKind} {w w' : World} {v : Value} {l : List Int} (h : RdI k w w.heap.size v l) (hb : Below w.heap.size w w') : RdI k w' w'.heap.size v l := (h.below hb).more hb.size
/-- It returns a list of numbers of its own; what was there is as it was. -/
def RetL (k : IntKind) (e : TypeId) (l : List Nat) (w : World) : Ending → World → Prop := fun en w' =>
  ∃ v, en = .returned v ∧ OwnN k e w' w.heap.size v l ∧ Below w.heap.size w w'
theorem RetL.mk {k : IntKind} {e : TypeId} {l : List Nat} {w w' : World} {x v : Value} (hx : x = v) (ho : OwnN k e w' w.heap.size v l) (hb : Below w.heap.size w w') : RetL k e l w (.returned x) w' :=
  ⟨v, by rw [hx], ho, hb⟩
/-- Two texts, as the walk compares them. -/
theorem text_eq {s t : ByteArray} (h : s = t) : (s.toList == t.toList) = true := by rw [h]; exact beq_self_eq_true _
theorem text_ne {s t : ByteArray} (h : ¬ s = t) : (s.toList == t.toList) = false := beq_eq_false_iff_ne.2 fun e => h (by
  rw [ByteArray.toList_eq, ByteArray.toList_eq] at e
  exact Go.WideShapes.bytes_inj e)
theorem get_mem' {l : List Nat} {i : Nat} (h : i < l.length) : l.getD i 0 ∈ l := by
  rw [List.getD_eq_getElem?_getD, List.getElem?_eq_getElem h]; exact List.getElem_mem h
end Go.VB
namespace Go.Proofs.YtbolbbngncnecaaGreat
open Go.RowKit Go.VB
theorem Tryz.inf8 : (Tryz.prog.info? 5).map (fun i => (i.zero, i.size, i.bytes)) = some (some (.int .u8 0), 1, 1) := by kernel_rfl
theorem Tryz.inf32 : (Tryz.prog.info? 51).map (fun i => (i.zero, i.size, i.bytes)) = some (some (.int .u32 0), 1, 4) := by kernel_rfl
theorem Tryz.inf64 : (Tryz.prog.info? 47).map (fun i => (i.zero, i.size, i.bytes)) = some (some (.int .u64 0), 1, 8) := by kernel_rfl
theorem Tryz.infInt : (Tryz.prog.info? 3).map (fun i => (i.zero, i.size, i.bytes)) = some (some (.int .i64 0), 1, 8) := by kernel_rfl
theorem pick_neg {v n : Int} (h : v < 0) (h1 : -9223372036854775808 ≤ v) (h3 : 1 ≤ n) (h4 : n ≤ 4611686018427387904) : wrap64 ((IntKind.u64.wrap v).tmod n) = (v + 18446744073709551616) % n := by
  have e : IntKind.u64.wrap v = v + 18446744073709551616 := by
    rw [IntKind.wrap_u64]; omega
  have hm := Int.emod_nonneg (v + 18446744073709551616) (show n ≠ 0 by omega)
  have hl := Int.emod_lt_of_pos (v + 18446744073709551616) (show 0 < n by omega)
  rw [e, Int.tmod_eq_emod_of_nonneg (by omega)]
  unfold wrap64; omega
theorem pick_pos {v n : Int} (h3 : 1 ≤ n) (h4 : n ≤ 4611686018427387904) : wrap64 (v % n) = v % n := by
  have hm := Int.emod_nonneg v (show n ≠ 0 by omega)
  have hl := Int.emod_lt_of_pos v (show 0 < n by omega)
  unfold wrap64; omega
set_option maxHeartbeats 400000 in
theorem pick_any (v n : Int) (w : World) (h1 : -9223372036854775808 ≤ v) (h2 : v ≤ 9223372036854775807) (h3 : 1 ≤ n) (h4 : n ≤ 4611686018427387904) :
    Calls Tryz.prog 6 #[.int .i64 v, .int .i64 n] w (Ret (.int .i64 ((if v < 0 then v + 18446744073709551616 else v) % n)) w) := by
  by_cases h : v < 0
  · rw [if_pos h]
    go_enter Tryz.func6, Tryz.ntmps6
    go_wp2
    go_ret
    exact Ret.mk (vint (pick_neg h h1 h3 h4))
  · rw [if_neg h]
    go_enter Tryz.func6, Tryz.ntmps6
    go_wp2
    go_ret
    exact Ret.mk (vint (pick_pos h3 h4))

/-- The number that Pick returns. -/
def pickN (v n : Int) : Int := (if v < 0 then v + 18446744073709551616 else v) % n
theorem pickN_bd (v : Int) {n : Int} (h : 0 < n) : 0 ≤ pickN v n ∧ pickN v n < n := ⟨Int.emod_nonneg _ (by omega), Int.emod_lt_of_pos _ h⟩
theorem pick_at (v n : Int) (w : World) (hv : (Lit.int .i64 v).wf = true) (h3 : 1 ≤ n) (h4 : n ≤ 4611686018427387904) : Calls Tryz.prog 6 #[.int .i64 v, .int .i64 n] w (Ret (.int .i64 (pickN v n)) w) := by
  obtain ⟨h1, h2⟩ := bounds_i64 hv
  exact pick_any v n w h1 h2 h3 h4
end Go.Proofs.YtbolbbngncnecaaGreat

/- Words for memory over any type of elements of one cell each: f tells an element's value. Rows that a call owns, slices that can be read, the laws for making, appending and storing; slices of truth values that come in. -/
namespace Go.VB
open Go.RowKit Go.ChangeShapes Go.WideShapes Go.ChangeAt

section
variable {α : Type}
/-- The slice v is the call's own (its row lies at or above block base, from its head on) and holds the elements l. -/
def OwnV (f : α → Value) (e : TypeId) (w : World) (base : Nat) (v : Value) (l : List α) : Prop := w.ownsRow base e 1 v l.length (l.map f)
/-- The same at a known block g with capacity c. -/
def RowV (f : α → Value) (e : TypeId) (w : World) (base g c : Nat) (l : List α) : Prop := OwnV f e w base (.slice (some ⟨g, 0, none⟩) l.length c) l
/-- The slice v can be read and holds the elements l; it lies below block B. -/
def RdV (f : α → Value) (w : World) (B : Nat) (v : Value) (l : List α) : Prop :=
  ∃ A c, v = .slice A l.length c ∧ l.length ≤ c ∧ c ≤ maxLen ∧ ∀ i x, l[i]? = some x → ∃ ad, A = some ad ∧ ad.block < B ∧ w.cell? (ad.add i) = some (f x)

variable {f : α → Value} {e : TypeId} {w w' : World} {base g c : Nat} {v : Value} {l : List α}

theorem OwnV.nil (f : α → Value) (e : TypeId) (w : World) (base : Nat) : OwnV f e w base (.slice none 0 0) [] := World.ownsRow_nil w base e 1
theorem OwnV.forms (h : OwnV f e w base v l) : (v = .slice none 0 0 ∧ l = []) ∨ ∃ g c, v = .slice (some ⟨g, 0, none⟩) l.length c ∧ RowV f e w base g c l := by
  rcases Joins.ownsRow_forms h with ⟨h1, h2⟩ | ⟨g, c, rfl⟩
  · exact .inl ⟨h1, List.eq_nil_of_length_eq_zero h2⟩
  · exact .inr ⟨g, c, rfl, h⟩
theorem OwnV.lower (h : OwnV f e w base v l) {b' : Nat} (hb : b' ≤ base) : OwnV f e w b' v l := Joins.ownsRow_le h hb
theorem OwnV.drew (h : OwnV f e w base v l) : OwnV f e w.drew base v l := h
theorem OwnV.alloc (h : OwnV f e w base v l) (o : Obj) : OwnV f e (w.alloc o) base v l := World.ownsRow.alloc h o
theorem OwnV.lt (h : OwnV f e w base v l) : ∀ b, v.ownBlock = some b → base ≤ b ∧ b < w.heap.size := World.ownsRow.lt h
/-- What a call leaves that turns nothing that was there. -/
theorem OwnV.below (h : OwnV f e w base v l) (hb : Below w.heap.size w w') : OwnV f e w' base v l := by
  refine World.ownsRow.kept (row := none) h ⟨hb.os, hb.tape, hb.output, hb.size, fun b hlt _ => hb.block b hlt⟩ ?_
  rcases hv : v.ownBlock with _ | b
  · exact .inl rfl
  · exact .inr (by simp)
theorem RowV.lt (h : RowV f e w base g c l) : base ≤ g ∧ g < w.heap.size := World.ownsRow.lt h g rfl
theorem RowV.own (h : RowV f e w base g c l) : OwnV f e w base (.slice (some ⟨g, 0, none⟩) l.length c) l := h
theorem RowV.own_at {n : Nat} {l' : List α} (h : RowV f e w base g c l) (hl : l.length = n) (he : l = l') : OwnV f e w base (.slice (some ⟨g, 0, none⟩) n c) l' := by
  subst hl; subst he; exact h
theorem RowV.below (h : RowV f e w base g c l) (hb : Below w.heap.size w w') : RowV f e w' base g c l := OwnV.below h hb
theorem RowV.drew (h : RowV f e w base g c l) : RowV f e w.drew base g c l := h
theorem RowV.alloc (h : RowV f e w base g c l) (o : Obj) : RowV f e (w.alloc o) base g c l := OwnV.alloc h o
theorem RowV.cell (h : RowV f e w base g c l) (j : Nat) (x : α) (hj : l[j]? = some x) : w.cell? ⟨g, j, none⟩ = some (f x) := by
  have hl : j < l.length := (List.getElem?_eq_some_iff.1 hj).1
  rw [World.ownsRow.cellAt h j (by omega), List.getElem?_map, hj]; rfl
theorem RowV.frozen (h : RowV f e w base g c l) (j : Nat) : w.frozen? ⟨g, j, none⟩ = false := World.ownsRow.frozenAt h j
theorem RowV.store (h : RowV f e w base g c l) (j : Nat) (x : α) : RowV f e (w.setCell ⟨g, j, none⟩ (f x)) base g c (l.set j x) := by
  have := (World.ownsRow.stored h j (f x)).1
  unfold RowV OwnV
  rw [List.length_set, List.map_set]
  exact this
theorem RowV.made (f : α → Value) (z : α) (e : TypeId) (w : World) (base n : Nat) (hb : base ≤ w.heap.size) (hm : n ≤ maxLen) :
    RowV f e (w.alloc (.cells (madeCells #[f z] n) e)) base w.heap.size n (List.replicate n z) := by
  have := World.ownsRow_lit (base := base) (e := e) (size := 1) w (madeCells #[f z] n) n hb hm (by rw [size_madeCells, Nat.mul_one])
  rw [toList_madeCells_one] at this
  unfold RowV OwnV
  rw [List.length_replicate, List.map_replicate]
  exact this

theorem RdV.nil (f : α → Value) (w : World) (B : Nat) : RdV f w B (.slice none 0 0) [] := ⟨none, 0, rfl, Nat.le_refl _, Nat.zero_le _, fun i x hx => by simp at hx⟩
theorem RdV.more {B B' : Nat} (h : RdV f w B v l) (hB : B ≤ B') : RdV f w B' v l := by
  obtain ⟨A, c, hv, hc, hm, hr⟩ := h
  refine ⟨A, c, hv, hc, hm, fun i x hi => ?_⟩
  obtain ⟨ad, h1, h2, h3⟩ := hr i x hi
  exact ⟨ad, h1, by omega, h3⟩
theorem RdV.below {B : Nat} (h : RdV f w B v l) (hb : Below B w w') : RdV f w' B v l := by
  obtain ⟨A, c, hv, hc, hm, hr⟩ := h
  refine ⟨A, c, hv, hc, hm, fun i x hi => ?_⟩
  obtain ⟨ad, h1, h2, h3⟩ := hr i x hi
  exact ⟨ad, h1, h2, by rw [hb.cell (by rw [block_add]; exact h2)]; exact h3⟩
theorem RdV.step (h : RdV f w w.heap.size v l) (hb : Below w.heap.size w w') : RdV f w' w'.heap.size v l := (h.below hb).more hb.size
theorem RdV.head {B : Nat} {A : Option Addr} {k : Nat} {m : List α} (h : RdV f w B (.slice A k c) l) (hm : m = l.take m.length) (hml : m.length ≤ l.length) : RdV f w B (.slice A m.length c) m := by
  obtain ⟨A', c', hv, hc, hx, hr⟩ := h
  cases hv
  refine ⟨A, c, rfl, by omega, hx, fun i x hi => hr i x ?_⟩
  have hl : i < m.length := (List.getElem?_eq_some_iff.1 hi).1
  rw [hm, List.getElem?_take, if_pos hl] at hi
  exact hi
theorem RowV.read (h : RowV f e w base g c l) : RdV f w w.heap.size (.slice (some ⟨g, 0, none⟩) l.length c) l := by
  have hlt := h.lt.2
  have hc : l.length ≤ c ∧ c ≤ maxLen := by
    have h' : w.ownsRow base e 1 (.slice (some ⟨g, 0, none⟩) l.length c) l.length (l.map f) := h
    rcases h'.2 with ⟨h1, _⟩ | ⟨g', c', cur, h1, _, _, h3, h4, _⟩
    · cases h1
    · cases h1; exact ⟨h3, h4⟩
  refine ⟨_, c, rfl, hc.1, hc.2, fun i x hi => ⟨_, rfl, hlt, ?_⟩⟩
  have := h.cell i x hi
  unfold Addr.add
  by_cases h0 : i = 0
  · subst h0; simpa using this
  · simpa [h0] using this
theorem OwnV.read (h : OwnV f e w base v l) : RdV f w w.heap.size v l := by
  rcases h.forms with ⟨rfl, rfl⟩ | ⟨g, c, rfl, hr⟩
  · exact RdV.nil _ _ _
  · exact hr.read
/-- A row that was just laid out. -/
theorem RdV.lit (f : α → Value) (w : World) (l : List α) (m : Nat) (e : TypeId) (hm : l.length ≤ m) (hm2 : m ≤ maxLen) : RdV f (w.alloc (.cells (l.map f).toArray e)) (w.heap.size + 1) (.slice (some ⟨w.heap.size, 0, none⟩) l.length m) l :=
  ⟨_, m, rfl, hm, hm2, fun i x hi => ⟨_, rfl, Nat.lt_succ_self _, by
    have e : ((⟨w.heap.size, 0, none⟩ : Addr).add i) = ⟨w.heap.size, i, none⟩ := by
      unfold Addr.add
      by_cases h0 : i = 0
      · subst h0; rfl
      · simp [h0]
    rw [e, World.cell?_alloc_new]
    simp [hi]⟩⟩
theorem RdV.one (f : α → Value) (w : World) (x : α) (m : Nat) (e : TypeId) (hm : 1 ≤ m) (hm2 : m ≤ maxLen) : RdV f (w.alloc (.cells #[f x] e)) (w.heap.size + 1) (.slice (some ⟨w.heap.size, 0, none⟩) 1 m) [x] := RdV.lit f w [x] m e hm hm2

/-- make([]T, n). -/
theorem run_makeV {P : Program} {t e : TypeId} {bytes : Nat} {z : Value} (hz1 : z.cells = #[z]) (ht : P.underlying t = some (.slice e)) (hinfo : (P.info? e).map (fun i => (i.zero, i.size, i.bytes)) = some (some z, 1, bytes))
    (n : Nat) (hb : bytes * n ≤ 281474976710656) (hm : n ≤ maxLen) (w : World) :
    (Instr.makeSlice t (.int .i64 (n : Int)) (.int .i64 (n : Int))).run P w = .ok (.slice (some ⟨w.heap.size, 0, none⟩) n n) (w.alloc (.cells (madeCells #[z] n) e)) := by
  obtain ⟨i, hi, hz, hsz, hby⟩ := info_parts hinfo
  unfold maxLen at hm
  have h := run_make (P := P) w t e i z ht hi hz .i64 .i64 n n (by omega) (Int.le_refl _) (by rw [hby, ← Int.natCast_mul]; omega) (by omega)
  rw [Int.toNat_natCast, hsz, Nat.mul_one, hz1] at h
  exact h

/-- append(s, x...) onto a row of the call's own. -/
theorem wpl_appV {P : Program} {ops : Array Oper} {rest : List Oper} {o : Oper} {a : Act} {Q : Exit → Act → World → Prop} (hone : ∀ x : α, (f x).oneCell' = true) (z : Value) (hz1 : z.cells.size = 1) (hgd : o.guard = none) (s x : Operand) (t : TypeId)
    (ho : o.op = .call { callee := .builtin .append, args := #[s, x], argTypes := #[t, t] })
    (base : Nat) (e : TypeId) (bytes : Nat) (ht : P.underlying t = some (.slice e)) (hinfo : (P.info? e).map (fun i => (i.zero, i.size, i.bytes)) = some (some z, 1, bytes))
    (v : Value) (l : List α) (hs : a.eval s = v) (hown : OwnV f e w base v l) (B : Nat) (vx : Value) (m : List α) (hx : a.eval x = vx) (hr : RdV f w B vx m)
    (hlen : l.length + m.length ≤ maxLen) (hbytes : (l.length + m.length) * bytes ≤ 140737488355328) (hbase : base ≤ w.heap.size)
    (h : ∀ v' w', OwnV f e w' base v' (l ++ m) → Below base w w' → w.grownBy w' v.ownBlock → wpList P ops Q rest (a.put o.dst v') w') : wpList P ops Q (o :: rest) a w := by
  obtain ⟨i, hi, hz, hsz, hby⟩ := info_parts hinfo
  have fin : ∀ v' w', w'.ownsRow base e 1 v' (l.length + m.length) (l.map f ++ m.map f) → w.grownBy w' v.ownBlock → wpList P ops Q rest (a.put o.dst v') w' := fun v' w' ho' hg => by
    refine h v' w' ?_ ((Below.refl _ _).grown hg hbase (fun b hb => (OwnV.lt hown b hb).1)) hg
    unfold OwnV
    rw [List.length_append, List.map_append]; exact ho'
  obtain ⟨A, c, rfl, hc, hm, hcell⟩ := hr
  rcases A with _ | ad
  · have hm' : m = [] := by
      cases m with
      | nil => rfl
      | cons y m => obtain ⟨ad, h1, _⟩ := hcell 0 y rfl; cases h1
    subst hm'
    refine wpList_plain hgd fun K hK => ?_
    have hrun : (Builtin.append_ #[t, t] o.type #[v, .slice none 0 c]).run P w = .ok v w := by
      rcases hown.2 with ⟨rfl, _⟩ | ⟨g, cap, cur, rfl, _, _, hnc, _⟩
      · simp [Builtin.append_, run_underlying ht, sizeOf, typeInfo, hi, Builtin.lenOf, Builtin.firstCells]
      · simp [Builtin.append_, run_underlying ht, sizeOf, typeInfo, hi, Builtin.lenOf, Builtin.firstCells, hnc, storeCells]
    unfold Oper.wp
    simp [execOp, ho, resolve, invoke, builtin, hs, hx, hrun, Result.andThen]
    exact hK _ _ (fin v w (by simpa [OwnV] using hown) (World.grownBy.refl w _))
  · refine wpList_append_own w hgd s x t ho base e i z 1 bytes ht hi hz hsz hby hz1 (by decide) v l.length (l.map f) hs hown ad m.length c (m.map f) hx (by rw [List.length_map]; omega) ?_ ?_ hlen hbytes hbase ?_
    · intro j u hj
      rw [List.getElem?_map] at hj
      cases hmj : m[j]? with
      | none => rw [hmj] at hj; simp at hj
      | some y =>
        rw [hmj] at hj
        simp only [Option.map_some, Option.some.injEq] at hj
        obtain ⟨ad', h1, _, h3⟩ := hcell j y hmj
        cases h1
        rw [h3, hj]
    · intro u hu
      simp only [List.mem_map] at hu
      obtain ⟨y, _, rfl⟩ := hu
      exact hone y
    · intro v' w' ho' hg _
      exact fin v' w' ho' hg

/-- It returns a list of its own; what was there is as it was. -/
def RetV (f : α → Value) (e : TypeId) (l : List α) (w : World) : Ending → World → Prop := fun en w' =>
  ∃ v, en = .returned v ∧ OwnV f e w' w.heap.size v l ∧ Below w.heap.size w w'
theorem RetV.mk {x : Value} (hx : x = v) (ho : OwnV f e w' w.heap.size v l) (hb : Below w.heap.size w w') : RetV f e l w (.returned x) w' := ⟨v, by rw [hx], ho, hb⟩
/-- It returns a list of its own and a code; what was there is as it was. -/
def RetVE (f : α → Value) (e : TypeId) (l : List α) (c : Nat) (w : World) : Ending → World → Prop := fun en w' =>
  ∃ v, en = .returned (.tuple #[v, .int .i64 (c : Int)]) ∧ OwnV f e w' w.heap.size v l ∧ Below w.heap.size w w'
theorem RetVE.mk {k : Nat} {x : Value} (hx : x = .tuple #[v, .int .i64 (k : Int)]) (ho : OwnV f e w' w.heap.size v l) (hb : Below w.heap.size w w') : RetVE f e l k w (.returned x) w' := ⟨v, by rw [hx], ho, hb⟩
end

section
variable {H : Type} {enc : TypeId × Value → H} {P : Program}
/-- A slice of truth values that comes in. -/
theorem open_rdB {r : Reach} {b0 : Nat} {t e : TypeId} {w : World} {v : Value} {d : DataW H} {ps : List MemPlace} {held : Bool} (ht : P.underlying t = some (.slice e)) (he : P.underlying e = some .bool) (hc : P.cellsOf e = 1)
    (hval : Value.okWide P w r b0 t v) (hd : DataW.Trod enc P w 0 (fun _ => true) held t v d ps) {ts : List TypeId} {ds : List (DataW H)} (hsz : (DataW.weightsEach P ts ds).all (· ≤ reachBytes) = true) {j : Nat} (hj : ts[j]? = some t) (hdj : ds[j]? = some d) :
    ∃ bs : List Bool, RdV Value.bool w w.heap.size v bs ∧ bs.length * P.bytesOf e ≤ 140737488351232 := by
  obtain ⟨A, l, c, rfl⟩ := okWide_slice ht hval
  obtain ⟨fuel, hf⟩ := hd
  rcases Deep.open_bools ht he hc hf with ⟨hcs, hx⟩ | ⟨a, len, cap, Z, hcs, _, hl, hm, hx, hcell⟩
  · simp only [Value.cells, List.cons.injEq, Value.slice.injEq, and_true] at hcs
    obtain ⟨rfl, rfl, rfl⟩ := hcs
    exact ⟨[], RdV.nil _ _ _, by simp⟩
  · simp only [Value.cells, List.cons.injEq, Value.slice.injEq, and_true] at hcs
    obtain ⟨rfl, rfl, rfl⟩ := hcs
    refine ⟨(List.range l).map Z, ⟨some a, c, by simp, by simpa using hl, hm, fun i x hi => ?_⟩, ?_⟩
    · have hil : i < l := by
        have := (List.getElem?_eq_some_iff.1 hi).1
        simpa using this
      rw [List.getElem?_map, List.getElem?_range hil] at hi
      simp only [Option.map_some, Option.some.injEq] at hi
      subst hi
      have hci := hcell i (by omega)
      have hb := World.block_lt_of_cell? w _ hci
      rw [block_add] at hb
      exact ⟨a, rfl, hb, hci⟩
    · obtain ⟨rfl, _⟩ : d = _ ∧ ps = _ := by simpa using hx
      have h := sized_slice hsz hj hdj ht
      rw [List.length_map, List.length_range]
      refine Nat.le_trans (Nat.mul_le_mul_right _ ?_) (Nat.le_trans h (show reachBytes ≤ 140737488351232 by decide))
      simp
end
end Go.VB
