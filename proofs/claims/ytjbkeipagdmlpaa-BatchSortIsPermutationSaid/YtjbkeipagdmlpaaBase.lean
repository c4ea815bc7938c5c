/- General lemmas: how a walk that returns true becomes the stated row; posts behind names; small facts on worlds, bytes and strings. -/
import Derived.Test.YtjbkeipagdmlpaaRows
import Derived.WalkKit
import Derived.WalkSpells
import Derived.WalkLawsBesides
import Derived.ProofKit
import Derived.OpenShut
import Derived.ShutString
import Derived.ChangeOld
import Derived.SizedLaws
import Derived.JoinedOf
import Derived.Lib.Hide
namespace Go.VB
open Go.RowKit Go.ChangeShapes Go.WideShapes Go.ChangeAt

/-- It returns v and the world is as it was. -/
def Ret (v : Value) (w : World) : Ending → World → Prop := fun e w' => e = .returned v ∧ w = w'
/-- It returns v; what was there is as it was. -/
def RetB (v : Value) (w : World) : Ending → World → Prop := fun e w' => e = .returned v ∧ Below w.heap.size w w'

theorem vint {k : IntKind} {a b : Int} (h : a = b) : Value.int k a = Value.int k b := by rw [h]
theorem Ret.mk {v v' : Value} {w : World} (h : v' = v) : Ret v w (.returned v') w := ⟨by rw [h], rfl⟩
theorem RetB.mk {v v' : Value} {w w' : World} (h : v' = v) (hb : Below w.heap.size w w') : RetB v w (.returned v') w' := ⟨by rw [h], hb⟩
theorem Ret.toB {v : Value} {w : World} {e : Ending} {w' : World} (h : Ret v w e w') : RetB v w e w' := by
  obtain ⟨h1, h2⟩ := h; subst h2; exact ⟨h1, Below.refl _ _⟩

theorem bel_trans {W a b : World} (h1 : Below W.heap.size W a) (h2 : Below a.heap.size a b) : Below W.heap.size W b := h1.trans (h2.mono h1.size)

section lift
variable {H : Type} {enc : TypeId × Value → H} {P : Program}

theorem trodAll_below (hl : laidOutB P = true) {W W' : World} (hb : Below W.heap.size W W') :
    ∀ (ts : List TypeId) (vs : List Value) (ds : List (DataW H)) (ps : List MemPlace), (∀ t ∈ ts, P.readableRec t = true ∧ t < P.types.size) →
      (∀ x ∈ ps, x.block < W.heap.size) → DataW.TrodAll enc P W 0 (fun _ => true) true ts vs ds ps →
      DataW.TrodAll enc P W' 0 (fun b => decide (b < W.heap.size)) true ts vs ds ps := by
  intro ts
  induction ts with
  | nil =>
    intro vs ds ps _ _ h
    cases vs <;> cases ds <;> simp_all [DataW.TrodAll]
  | cons t ts ih =>
    intro vs ds ps hr hlt h
    cases vs with
    | nil => simp [DataW.TrodAll] at h
    | cons v vs =>
      cases ds with
      | nil => simp [DataW.TrodAll] at h
      | cons d ds =>
        obtain ⟨p, q, h1, h2, rfl⟩ := h
        refine ⟨p, q, ?_, ?_, rfl⟩
        · exact Below.trod hl (hr t (List.mem_cons_self ..)).1 (hr t (List.mem_cons_self ..)).2 h1 hb (fun x hx => hlt x (List.mem_append_left _ hx))
        · exact ih vs ds q (fun t ht => hr t (List.mem_cons_of_mem _ ht)) (fun x hx => hlt x (List.mem_append_right _ hx)) h2

theorem trodAll_length {w : World} {base : Nat} {spare : Nat → Bool} {held : Bool} :
    ∀ (ts : List TypeId) (vs : List Value) (ds : List (DataW H)) (ps : List MemPlace), DataW.TrodAll enc P w base spare held ts vs ds ps → ds.length = ts.length := by
  intro ts
  induction ts with
  | nil => intro vs ds ps h; cases vs <;> cases ds <;> simp_all [DataW.TrodAll]
  | cons t ts ih =>
    intro vs ds ps h
    cases vs with
    | nil => simp [DataW.TrodAll] at h
    | cons v vs =>
      cases ds with
      | nil => simp [DataW.TrodAll] at h
      | cons d ds =>
        obtain ⟨p, q, _, h2, _⟩ := h
        simp [ih vs ds q h2]

/-- A law: whatever can be read among its arguments, the walk returns true and leaves what was there. -/
theorem law_lifted {C : Checked} {f : FuncId} {fn : Func} {s : ChangeSpec} {tb : TypeId} {os : Os} (started : os.Started)
    (own : ownKnob C.prog.godebug = none) (laidOut : laidOutB C.prog = true) (noInit : C.prog.inits.idxOf? f = none) (hfn : C.prog.funcs[f]? = some fn)
    (witness : ∃ (w : World) (tape : Tape) (i : Input), w.os = os ∧ (w.forCall tape i).Shaped C.prog ∧ i.vars = [] ∧ Input.okWide C.prog (w.forCall tape i) .any w.heap.size f i ∧
      s.pre6 enc C.prog fn [] false (w.forCall tape i).memory i.args ∧ ({ modest := false } : Assume).holds C.prog (lone (Frame.enter C.prog f i.args .normal) [] (w.forCall tape i)))
    (hvars : s.vars = []) (hres : fn.resultTypes = #[tb]) (hbool : C.prog.underlying tb = some .bool)
    (hparams0 : (fn.params.toList.all fun t => C.prog.readableRec t && decide (t < C.prog.types.size)) = true)
    (hspec : ∀ ds : List (DataW H), ds.length = fn.params.toList.length → s.fn H ds = { results := [.lit (.bool true)], args := ds })
    (walk : ∀ (W : World) (base : Nat) (args : Array Value) (ds : List (DataW H)) (p : List MemPlace),
      (∀ (j : Nat) t v, fn.params[j]? = some t → args[j]? = some v → Value.okWide C.prog W .any base t v) →
      DataW.TrodAll enc C.prog W 0 (fun _ => true) true fn.params.toList args.toList ds p →
      (DataW.weightsEach C.prog fn.params.toList ds).all (· ≤ reachBytes) = true →
      (∀ x ∈ p, x.block < W.heap.size) →
      Calls C.prog f args W (RetB (.bool true) W)) :
    ReturnsInHanded {} C os f .any (s.pre6 enc C.prog fn [] false) (s.post enc C.prog fn false true false false) := by
  have hparams : ∀ t ∈ fn.params.toList, C.prog.readableRec t = true ∧ t < C.prog.types.size := fun t ht => by
    have := List.all_eq_true.1 hparams0 t ht
    simpa using this
  refine returnsInHanded_of_change_sized own started noInit hfn witness ?_
  intro W base args ds gs before hval hW _ hsz _
  have hW' := hW
  obtain ⟨p, q, hA, hV, rfl, _, _⟩ := hW
  rw [hvars] at hV
  obtain ⟨rfl, rfl⟩ := trodVars_none hV
  have hlt : ∀ x ∈ p, x.block < W.heap.size := fun x hx => hW'.lt x (List.mem_append_left _ hx)
  have hsz' : (DataW.weightsEach C.prog fn.params.toList ds).all (· ≤ reachBytes) = true := by
    have e : s.plain.varTypes C.prog = [] := by simp [ChangeSpec.plain, DataSpec.varTypes, hvars]
    rw [e, List.append_nil, List.append_nil] at hsz
    exact hsz
  refine (walk W base args ds p hval hA hsz' hlt).mono fun e W' he => ?_
  obtain ⟨rfl, hb⟩ := he
  have hs := hspec ds (trodAll_length _ _ _ _ hA)
  have e0 : ds ++ [] = ds := List.append_nil ds
  refine ⟨_, rfl, ds, [], p ++ [], [], p, [], hW', ?_, ?_, ?_, hb.frame _, fun h => by cases h⟩
  · rw [e0, hs, hres]
    exact trodAll_mk1 (shut_bool hbool _)
  · rw [e0, hs]
    exact trodAll_below laidOut hb _ _ _ _ hparams hlt hA
  · rw [e0, hs, hvars]
    exact rfl
end lift

/-! ### bytes and strings -/
/-- The string of a list of bytes. -/
def str (l : List UInt8) : ByteArray := ⟨l.toArray⟩
theorem str_toList (l : List UInt8) : (str l).data.toList = l := rfl
theorem str_size (l : List UInt8) : (str l).size = l.length := by simp [str, ByteArray.size]
theorem str_of (s : ByteArray) : str s.data.toList = s := rfl
theorem str_append (a b : List UInt8) : str a ++ str b = str (a ++ b) := by
  apply ByteArray.ext; simp [str]
theorem str_inj {a b : List UInt8} (h : str a = str b) : a = b := by
  have := congrArg (fun s : ByteArray => s.data.toList) h
  simpa [str_toList] using this
theorem str_push (l : List UInt8) (c : UInt8) : (str l).push c = str (l ++ [c]) := by
  apply ByteArray.ext; simp [str, ByteArray.push]
theorem fold_push (ns : List Int) : ∀ (l : List UInt8), ns.foldl (fun r n => r.push (UInt8.ofNat n.toNat)) (str l) = str (l ++ ns.map fun n => UInt8.ofNat n.toNat) := by
  induction ns with
  | nil => intro l; simp
  | cons n ns ih => intro l; simp only [List.foldl_cons, str_push, ih]; simp

/-- string(b) of a row whose cells are known. -/
theorem run_string_of_row {P : Program} (w : World) (src dst e : TypeId) (a : Addr) (l c : Nat) (bs : List UInt8)
    (hs : P.underlying src = some (.slice e)) (he : P.underlying e = some (.int .u8)) (hd : P.underlying dst = some .string)
    (_hl : bs.length = l) (hc : (loadCells a l).run P w = .ok (bs.map (fun b => Value.int .u8 (b.toNat : Int))).toArray w) :
    (convert src dst (.slice (some a) l c)).run P w = .ok (.string (str bs)) w := by
  rw [run_convert_bytes_string w src dst e (some a) l c hs he hd]
  have h := run_bytesToString (P := P) w a l c (bs.map fun b => (b.toNat : Int)) (by simpa [List.map_map, Function.comp_def] using hc)
  rw [h]
  congr 1
  have hf := fold_push (bs.map fun b => (b.toNat : Int)) []
  rw [show str [] = ByteArray.empty from rfl] at hf
  rw [hf]
  simp [List.map_map, Function.comp_def]
end Go.VB

namespace Go.VB
open Go.RowKit
/-- A byte as a value. -/
def bv (b : UInt8) : Value := .int .u8 (b.toNat : Int)
/-- The slice value v, of bytes, is the call's own and holds bs. -/
def OwnB (e : TypeId) (w : World) (base : Nat) (v : Value) (bs : List UInt8) : Prop := w.ownsRow base e 1 v bs.length (bs.map bv)

theorem OwnB.nil (e : TypeId) (w : World) (base : Nat) : OwnB e w base (.slice none 0 0) [] := World.ownsRow_nil w base e 1
theorem OwnB.alloc {e : TypeId} {w : World} {base : Nat} {v : Value} {bs : List UInt8} (h : OwnB e w base v bs) (o : Obj) : OwnB e (w.alloc o) base v bs := World.ownsRow.alloc h o
theorem OwnB.drew {e : TypeId} {w : World} {base : Nat} {v : Value} {bs : List UInt8} (h : OwnB e w base v bs) : OwnB e w.drew base v bs := h

theorem u8_ofInt {c : Int} (h0 : 0 ≤ c) (h1 : c < 256) : bv (UInt8.ofNat c.toNat) = .int .u8 c := by
  unfold bv
  have : ((UInt8.ofNat c.toNat).toNat : Int) = c := by
    rw [UInt8.toNat_ofNat', Nat.mod_eq_of_lt (by omega)]; omega
  rw [this]

/-- append of one byte onto a row of the call's own. -/
theorem wpl_app1 {P : Program} {w : World} {ops : Array Oper} {rest : List Oper} {o : Oper} {a : Act} {Q : Exit → Act → World → Prop} (hgd : o.guard = none) (s x : Operand) (t : TypeId)
    (ho : o.op = .call { callee := .builtin .append, args := #[s, x], argTypes := #[t, t] })
    (base : Nat) (e : TypeId) (ht : P.underlying t = some (.slice e)) (hinfo : (P.info? e).map (fun i => (i.zero, i.size, i.bytes)) = some (some (.int .u8 0), 1, 1))
    (v : Value) (bs : List UInt8) (hs : a.eval s = v) (hown : OwnB e w base v bs)
    (g : Nat) (m : Nat) (c : Int) (hx : a.eval x = .slice (some ⟨g, 0, none⟩) 1 m) (hcell : w.cell? ⟨g, 0, none⟩ = some (.int .u8 c)) (h0 : 0 ≤ c) (h1 : c < 256)
    (hlen : bs.length < 1099511627776) (hbase : base ≤ w.heap.size)
    (h : ∀ v' w', OwnB e w' base v' (bs ++ [UInt8.ofNat c.toNat]) → Below base w w' → wpList P ops Q rest (a.put o.dst v') w') : wpList P ops Q (o :: rest) a w := by
  obtain ⟨i, hi, hz, hsz, hby⟩ := info_parts hinfo
  refine wpList_append_own w hgd s x t ho base e i (.int .u8 0) 1 1 ht hi hz hsz hby rfl (by decide) v bs.length (bs.map bv) hs hown ⟨g, 0, none⟩ 1 m [.int .u8 c] hx rfl ?_ ?_ ?_ ?_ hbase ?_
  · intro j u hj
    match j, hj with
    | 0, hj => simp at hj; subst hj; simpa [Addr.add] using hcell
  · intro u hu; simp at hu; subst hu; rfl
  · unfold maxLen; omega
  · omega
  · intro v' w' ho' hg _
    refine h v' w' ?_ ?_
    · unfold OwnB
      rw [List.map_append, List.map_cons, List.map_nil, u8_ofInt h0 h1, List.length_append]
      exact ho'
    · exact (Below.refl _ _).grown hg hbase (fun k hk => (World.ownsRow.lt hown k hk).1)

/-- string(b) of a row of the call's own. -/
theorem run_string_of_own {P : Program} {w : World} (src dst e : TypeId) {base : Nat} {v : Value} {bs : List UInt8}
    (hs : P.underlying src = some (.slice e)) (he : P.underlying e = some (.int .u8)) (hd : P.underlying dst = some .string) (h : OwnB e w base v bs) :
    (convert src dst v).run P w = .ok (.string (str bs)) w := by
  have h' : w.ownsRow base e 1 v bs.length (bs.map bv) := h
  rcases h'.2 with ⟨rfl, hn⟩ | ⟨g, cap, cur, rfl, _⟩
  · have : bs = [] := List.eq_nil_of_length_eq_zero hn
    subst this
    rw [run_convert_bytes_string w src dst e none 0 0 hs he hd]
    unfold Conv.bytesToString
    simp [Sem.run_pure]
    rfl
  · refine run_string_of_row w src dst e _ _ cap bs hs he hd rfl ?_
    have hc := World.ownsRow.cells h' (g := g) rfl
    have := run_loadCells_list (P := P) (w := w) ⟨g, 0, none⟩ (bs.map bv) hc
    rw [List.length_map] at this
    exact this
end Go.VB

namespace Go.VB
open Go.RowKit
theorem cell_new1 (w : World) (v : Value) (e : TypeId) : (w.alloc (.cells #[v] e)).cell? ⟨w.heap.size, 0, none⟩ = some v := by
  simp
end Go.VB

namespace Go.VB
open Go.RowKit
/-- string([]byte{c}): the row was laid just before. -/
theorem run_string1 {P : Program} (src dst e : TypeId) (hs : P.underlying src = some (.slice e)) (he : P.underlying e = some (.int .u8)) (hd : P.underlying dst = some .string)
    (W : World) (c : Int) (m : Nat) :
    (convert src dst (.slice (some ⟨W.heap.size, 0, none⟩) 1 m)).run P (W.alloc (.cells #[.int .u8 c] e)) = .ok (.string (str [UInt8.ofNat c.toNat])) (W.alloc (.cells #[.int .u8 c] e)) := by
  rw [run_convert_bytes_string _ src dst e _ _ _ hs he hd]
  have h := run_bytesToString (P := P) (W.alloc (.cells #[.int .u8 c] e)) ⟨W.heap.size, 0, none⟩ 1 m [c] (by
    have := run_loadCells_list (P := P) (w := W.alloc (.cells #[.int .u8 c] e)) ⟨W.heap.size, 0, none⟩ [.int .u8 c] (by
      intro j v hj
      match j, hj with
      | 0, hj => simp at hj; subst hj; simp [Addr.add])
    simpa using this)
  rw [h]
  rfl

theorem run_string1_at {P : Program} (src dst e : TypeId) (hs : P.underlying src = some (.slice e)) (he : P.underlying e = some (.int .u8)) (hd : P.underlying dst = some .string)
    (W : World) (g : Nat) (c : Int) (m : Nat) (hc : W.cell? ⟨g, 0, none⟩ = some (.int .u8 c)) :
    (convert src dst (.slice (some ⟨g, 0, none⟩) 1 m)).run P W = .ok (.string (str [UInt8.ofNat c.toNat])) W := by
  rw [run_convert_bytes_string _ src dst e _ _ _ hs he hd]
  have h := run_bytesToString (P := P) W ⟨g, 0, none⟩ 1 m [c] (by
    have := run_loadCells_list (P := P) (w := W) ⟨g, 0, none⟩ [.int .u8 c] (by
      intro j v hj
      match j, hj with
      | 0, hj => simp at hj; subst hj; simpa [Addr.add] using hc)
    simpa using this)
  rw [h]
  rfl
theorem run_string1_drew {P : Program} (src dst e : TypeId) (hs : P.underlying src = some (.slice e)) (he : P.underlying e = some (.int .u8)) (hd : P.underlying dst = some .string)
    (W : World) (c : Int) (m : Nat) :
    (convert src dst (.slice (some ⟨W.heap.size, 0, none⟩) 1 m)).run P (W.alloc (.cells #[.int .u8 c] e)).drew = .ok (.string (str [UInt8.ofNat c.toNat])) (W.alloc (.cells #[.int .u8 c] e)).drew :=
  run_string1_at src dst e hs he hd _ _ c m (cell_new1 W (.int .u8 c) e)

/-- Byte k of a string, as a number; 0 behind its end. -/
def bN (s : ByteArray) (k : Nat) : Nat := (s.data.toList.getD k 0).toNat
theorem get_bN (s : ByteArray) : ∀ (n : Nat) (h : n < s.size), (s[n]'h).toNat = bN s n := fun n h => by
  unfold bN
  rw [List.getD_eq_getElem?_getD, List.getElem?_eq_getElem (by simpa using h)]
  rfl
theorem bN_lt (s : ByteArray) (k : Nat) : bN s k < 256 := UInt8.toNat_lt _
theorem bN_str (l : List UInt8) (k : Nat) : bN (str l) k = (l.getD k 0).toNat := rfl
theorem extract_list (s : ByteArray) (i j : Nat) : (s.extract i j).data.toList = (s.data.toList.drop i).take (j - i) := by
  rw [ByteArray.data_extract, Array.toList_extract, List.extract_eq_take_drop]
theorem extract_str (s : ByteArray) (i j : Nat) : s.extract i j = str ((s.data.toList.drop i).take (j - i)) := by
  rw [← extract_list]; rfl
theorem size_list (s : ByteArray) : s.data.toList.length = s.size := Array.length_toList
theorem extract_end (s : ByteArray) (i : Nat) : s.extract i s.size = str (s.data.toList.drop i) := by
  rw [extract_str, List.take_of_length_le]
  rw [List.length_drop, size_list]
  exact Nat.le_refl _
end Go.VB

namespace Go.VB
/-- a + b on strings of known bytes, as the walk takes it. -/
theorem run_add_str {P : Program} (a : List UInt8) (n : Nat) (ha : a.length ≤ n) (hn : n ≤ 4611686018427387904) :
    ∀ (c : UInt8) (w : World), (Op.stringOp .add (str a) (str [c])).run P w = .ok (.string (str (a ++ [c]))) w := by
  intro c w
  rw [run_string_add_sum w (str a) (str [c]) (by rw [str_size, str_size]; simp; omega), str_append]
end Go.VB
