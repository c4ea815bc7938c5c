/- keep's Schema: a valid schema of one to four columns. -/
import Derived.Test.YtjbkeipagdmlpaaSchM
import Derived.Test.YtjbkeipagdmlpaaSchV
import Derived.Test.YtjbkeipagdmlpaaValW6
import Derived.Deep.RegionWith
import Derived.Deep.CutRange
namespace Go.SC
open Go.RowKit Go.VB Go.VL
/-- The world is as it was but for block g. -/
structure But (g : Nat) (w w' : World) : Prop where
  os : w'.os = w.os
  tape : w'.tape = w.tape
  output : w'.output = w.output
  size : w'.heap.size = w.heap.size
  block : ∀ k, k ≠ g → w'.heap[k]? = w.heap[k]?
theorem But.refl (g : Nat) (w : World) : But g w w := ⟨rfl, rfl, rfl, rfl, fun _ _ => rfl⟩
theorem But.drew {g : Nat} {a b : World} (h : But g a b) : But g a b.drew := ⟨h.os, h.tape, h.output, h.size, h.block⟩
theorem But.drewN {g : Nat} {a b : World} (k : Nat) (h : But g a b) : But g a (b.drewN k) := by
  induction k generalizing b with
  | zero => exact h
  | succ k ih => exact (ih h).drew
theorem But.set {g : Nat} {a b : World} (h : But g a b) (i : Nat) (x : Value) : But g a (b.setCell ⟨g, i, none⟩ x) :=
  ⟨h.os, h.tape, h.output, (World.size_setCell _ _ _).trans h.size, fun k hk => (Below.heap_setCell _ _ _ _ hk).trans (h.block k hk)⟩
theorem But.below {g B : Nat} {a b w0 : World} (h : But g a b) (h0 : Below B w0 a) (hB : B ≤ g) : Below B w0 b :=
  ⟨h.os.trans h0.os, h.tape.trans h0.tape, h.output.trans h0.output, by rw [h.size]; exact h0.size, fun k hk => (h.block k (by omega)).trans (h0.block k hk)⟩
theorem But.cell {g : Nat} {a b : World} (h : But g a b) {p : Addr} (hp : p.block ≠ g) : b.cell? p = a.cell? p := World.cell?_of_block (h.block _ hp)
theorem But.frozen {g : Nat} {a b : World} (h : But g a b) {p : Addr} (hp : p.block ≠ g) : b.frozen? p = a.frozen? p := World.frozen?_of_block (h.block _ hp)
theorem But.var2 {g b : Nat} {a c : World} {x y : Value} (h : But g a c) (hv : Var2 a b x y) (hb : b ≠ g) : Var2 c b x y :=
  ⟨(h.cell hb).trans hv.c0, (h.cell hb).trans hv.c1, (h.frozen hb).trans hv.f0, (h.frozen hb).trans hv.f1⟩
theorem But.var4 {g b : Nat} {a c : World} {x y z u : Value} (h : But g a c) (hv : Var4F a b x y z u) (hb : b ≠ g) : Var4F c b x y z u :=
  ⟨(h.cell hb).trans hv.c0, (h.cell hb).trans hv.c1, (h.cell hb).trans hv.c2, (h.cell hb).trans hv.c3, (h.frozen hb).trans hv.f0, (h.frozen hb).trans hv.f1, (h.frozen hb).trans hv.f2, (h.frozen hb).trans hv.f3⟩
theorem But.own {g : Nat} {a c : World} {e : TypeId} {base : Nat} {v : Value} {cs : List Col} (h : But g a c) (hv : OwnC e a base v cs) (hb : g < base) : OwnC e c base v cs := by
  refine World.ownsRow.kept (row := some g) hv ⟨h.os, h.tape, h.output, by rw [h.size]; exact Nat.le_refl _, fun k _ hk => h.block k (fun e => hk (by rw [e]))⟩ (.inr fun e => ?_)
  have := (OwnC.lt hv g e).1
  omega
/-- Grown, but for block g. -/
def GB (g : Nat) (a b : World) : Prop := a.grownBy b (some g)
theorem GB.drew (g : Nat) (w : World) : GB g w w.drew := ⟨rfl, rfl, rfl, Nat.le_refl _, fun _ _ _ => rfl⟩
theorem GB.alloc0 (g : Nat) (w : World) (o : Obj) : GB g w (w.alloc o).drew :=
  have k := (Below.refl w.heap.size w).alloc (Nat.le_refl _) o
  ⟨k.os, k.tape, k.output, k.size, fun i hi _ => k.block i hi⟩
theorem GB.but {g : Nat} {a b c : World} (h : GB g a b) (k : But g b c) : GB g a c :=
  ⟨k.os.trans h.os, k.tape.trans h.tape, k.output.trans h.output, by rw [k.size]; exact h.size, fun i hi hne => (k.block i (fun e => hne (by rw [e]))).trans (h.block i hi hne)⟩
theorem GB.alloc {g : Nat} {a b : World} (h : GB g a b) (o : Obj) : GB g a (b.alloc o) :=
  have k := (Below.refl b.heap.size b).alloc (Nat.le_refl _) o
  ⟨k.os.trans h.os, k.tape.trans h.tape, k.output.trans h.output, Nat.le_trans h.size k.size, fun i hi hne => (k.block i (Nat.lt_of_lt_of_le hi h.size)).trans (h.block i hi hne)⟩
theorem GB.set {g : Nat} {a b : World} (h : GB g a b) {p : Addr} (hp : a.heap.size ≤ p.block) (x : Value) : GB g a (b.setCell p x) :=
  ⟨h.os, h.tape, h.output, by rw [World.size_setCell]; exact h.size, fun i hi hne => (Below.heap_setCell _ _ _ _ (by omega)).trans (h.block i hi hne)⟩
theorem GB.var2 {g b : Nat} {a c : World} {x y : Value} (h : GB g a c) (hv : Var2 a b x y) (hb : b ≠ g) : Var2 c b x y :=
  have k : ∀ i, c.cell? ⟨b, i, none⟩ = a.cell? ⟨b, i, none⟩ := fun _ => World.cell?_of_block (h.block b hv.lt (fun e => hb (Option.some.inj e)))
  have k2 : ∀ i, c.frozen? ⟨b, i, none⟩ = a.frozen? ⟨b, i, none⟩ := fun _ => World.frozen?_of_block (h.block b hv.lt (fun e => hb (Option.some.inj e)))
  ⟨(k 0).trans hv.c0, (k 1).trans hv.c1, (k2 0).trans hv.f0, (k2 1).trans hv.f1⟩
theorem GB.own {g : Nat} {a c : World} {e : TypeId} {base : Nat} {v : Value} {cs : List Col} (h : GB g a c) (hv : OwnC e a base v cs) (hb : g < base) : OwnC e c base v cs :=
  World.ownsRow.kept (row := some g) hv h (.inr fun e => by have := (OwnC.lt hv g e).1; omega)
theorem GB.below {g B : Nat} {a b w0 : World} (h : GB g a b) (h0 : Below B w0 a) (hB : B ≤ g) (hs : B ≤ a.heap.size) : Below B w0 b :=
  ⟨h.os.trans h0.os, h.tape.trans h0.tape, h.output.trans h0.output, Nat.le_trans h0.size h.size, fun k hk => (h.block k (by omega) (fun e => by cases e; omega)).trans (h0.block k hk)⟩
theorem But.set4 {w w' : World} {b : Nat} (h : But b w w') (x y z u : Value) : But b w ((((w'.setCell ⟨b, 0, none⟩ x).setCell ⟨b, 1, none⟩ y).setCell ⟨b, 2, none⟩ z).setCell ⟨b, 3, none⟩ u) := (((h.set 0 x).set 1 y).set 2 z).set 3 u
theorem GB.set4 {g b : Nat} {a c : World} (h : GB g a c) (hb : a.heap.size ≤ b) (x y z u : Value) : GB g a ((((c.setCell ⟨b, 0, none⟩ x).setCell ⟨b, 1, none⟩ y).setCell ⟨b, 2, none⟩ z).setCell ⟨b, 3, none⟩ u) :=
  (((h.set (p := ⟨b, 0, none⟩) hb x).set (p := ⟨b, 1, none⟩) hb y).set (p := ⟨b, 2, none⟩) hb z).set (p := ⟨b, 3, none⟩) hb u
theorem Var4F.set2 {w : World} {b : Nat} {x y z u : Value} (h : Var4F w b x y z u) (z' : Value) : Var4F (w.setCell ⟨b, 2, none⟩ z') b x y z' u := by
  have k : ∀ (j : Nat), 2 ≠ j → (w.setCell ⟨b, 2, none⟩ z').cell? ⟨b, j, none⟩ = w.cell? ⟨b, j, none⟩ := fun j hij => World.cell?_setCell_other _ _ _ _ (fun e => hij (congrArg Addr.off e))
  refine ⟨(k 0 (by decide)).trans h.c0, (k 1 (by decide)).trans h.c1, World.cell?_setCell_same _ _ _ h.c2, (k 3 (by decide)).trans h.c3, ?_, ?_, ?_, ?_⟩
  all_goals
    rw [World.frozen?_setCell]
    first | exact h.f0 | exact h.f1 | exact h.f2 | exact h.f3
theorem Var2.other2 {w : World} {b c i : Nat} {x y u : Value} (h : Var2 w b x y) (hc : b ≠ c) : Var2 (w.setCell ⟨c, i, none⟩ u) b x y := by
  have hk : ∀ j : Nat, (⟨c, i, none⟩ : Addr) ≠ ⟨b, j, none⟩ := fun j e => hc (congrArg Addr.block e).symm
  constructor
  · rw [World.cell?_setCell_other _ _ _ _ (hk _)]; exact h.c0
  · rw [World.cell?_setCell_other _ _ _ _ (hk _)]; exact h.c1
  · rw [World.frozen?_setCell]; exact h.f0
  · rw [World.frozen?_setCell]; exact h.f1
theorem Var2.set00 {w : World} {b : Nat} {x y : Value} (h : Var2 w b x y) (x' : Value) : Var2 (w.setCell ⟨b, 0, none⟩ x') b x' y := by
  constructor
  · exact World.cell?_setCell_same _ _ _ h.c0
  · rw [World.cell?_setCell_other _ _ _ _ (by simp)]; exact h.c1
  · rw [World.frozen?_setCell]; exact h.f0
  · rw [World.frozen?_setCell]; exact h.f1
theorem Var2.set1s {w : World} {b : Nat} {x y : Value} (h : Var2 w b x y) (y' : Value) : Var2 (w.setCell ⟨b, 1, none⟩ y') b x y' := by
  constructor
  · rw [World.cell?_setCell_other _ _ _ _ (by simp)]; exact h.c0
  · exact World.cell?_setCell_same _ _ _ h.c1
  · rw [World.frozen?_setCell]; exact h.f0
  · rw [World.frozen?_setCell]; exact h.f1
theorem Var2.set01 {w : World} {b : Nat} {x y : Value} (h : Var2 w b x y) (x' y' : Value) : Var2 ((w.setCell ⟨b, 0, none⟩ x').setCell ⟨b, 1, none⟩ y') b x' y' := (h.set00 x').set1s y'
/-- A source in block g. -/
def Sr (w : World) (g : Nat) (v : Value) (zl : List Int) : Prop := Src w w g g v zl
theorem Sr.alc {w : World} {g : Nat} {v : Value} {zl : List Int} (h : Sr w g v zl) (o : Obj) : Sr (w.alloc o) g v zl := by
  have h2 := Src.alloc h (Src.size h) o
  exact ⟨Below.refl _ _, h2.base, h2.lt, h2.c0, h2.c1, h2.fr, h2.rd.below h2.below, h2.wf⟩
theorem Sr.but {w w' : World} {g c : Nat} {v : Value} {zl : List Int} (h : Sr w g v zl) (hb : But c w w') (hc : g < c) : Sr w' g v zl :=
  ⟨Below.refl _ _, Nat.le_refl _, by rw [hb.size]; exact h.lt, (hb.cell (by show g ≠ c; omega)).trans h.c0, let ⟨i, e, hi⟩ := h.c1; ⟨i, (hb.cell (by show g ≠ c; omega)).trans e, hi⟩,
    (hb.frozen (by show g ≠ c; omega)).trans h.fr, h.rd.below (hb.below (Below.refl _ _) (by omega)), h.wf⟩
theorem Sr.below {w w' : World} {g B : Nat} {v : Value} {zl : List Int} (h : Sr w g v zl) (hb : Below B w w') (hg : g < B) : Sr w' g v zl :=
  ⟨Below.refl _ _, Nat.le_refl _, Nat.lt_of_lt_of_le h.lt hb.size, (hb.cell hg).trans h.c0, let ⟨i, e, hi⟩ := h.c1; ⟨i, (hb.cell hg).trans e, hi⟩, (hb.frozen hg).trans h.fr, h.rd.below (hb.mono (by omega)), h.wf⟩
/-- A choice from 0 to n - 1: the world is as it was but for the source. -/
def NxtP (w : World) (g : Nat) (v : Value) (zl : List Int) (n : Int) : Ending → World → Prop := fun e w' => ∃ r : Nat, e = .returned (.int .i64 (r : Int)) ∧ (r : Int) < n ∧ Sr w' g v zl ∧ But g w w'
theorem NxtP.mk' {w w' : World} {g : Nat} {v : Value} {zl : List Int} {n r : Int} {x : Value} (hs : Sr w' g v zl) (hb : But g w w') (hx : x = .int .i64 r) (hp : 0 ≤ r ∧ r < n) : NxtP w g v zl n (.returned x) w' :=
  ⟨r.toNat, by rw [hx, Int.toNat_of_nonneg hp.1], by rw [Int.toNat_of_nonneg hp.1]; exact hp.2, hs, hb⟩
/-- The columns that keep's Schema has made, of N. -/
def KAt (N : Nat) (cs : List Col) : Prop := ∀ i, i < cs.length → (cs.getD i col0).nm = str [UInt8.ofNat (97 + (N - 1 - i))] ∧ okT (cs.getD i col0).ty = true ∧ 0 ≤ (cs.getD i col0).sc ∧ (cs.getD i col0).sc ≤ 3 ∧ ((cs.getD i col0).ty ≠ 5 → (cs.getD i col0).sc = 0)
theorem KAt.snoc {N j : Nat} {cs : List Col} {c : Col} (h : KAt N cs) (hl : cs.length + (j + 1) = N) (h1 : c.nm = str [UInt8.ofNat (97 + j)]) (h2 : okT c.ty = true) (h3 : 0 ≤ c.sc ∧ c.sc ≤ 3) (h4 : c.ty ≠ 5 → c.sc = 0) : KAt N (cs ++ [c]) := by
  intro i hi
  by_cases hlt : i < cs.length
  · rw [List.getD_eq_getElem?_getD, List.getElem?_append_left hlt, ← List.getD_eq_getElem?_getD]; exact h i hlt
  · have : i = cs.length := by simp at hi; omega
    subst this
    rw [show (cs ++ [c]).getD cs.length col0 = c from by simp]
    exact ⟨by rw [h1, show N - 1 - cs.length = j from by omega], h2, h3.1, h3.2, h4⟩
/-- What keep's Schema leaves. -/
def KOK (cs : List Col) (key : Int) : Prop := 1 ≤ cs.length ∧ cs.length ≤ 4 ∧ KAt cs.length cs ∧ 0 ≤ key ∧ key < cs.length
def KSch (T : TypeId) (w : World) : Ending → World → Prop := fun e w' => Below w.heap.size w w' ∧ ∃ v cs key, e = .returned (.agg #[v, .int .i64 key]) ∧ OwnC T w' w.heap.size v cs ∧ KOK cs key
theorem abcd_cut (j : Nat) (h : j < 4) : (⟨#[97, 98, 99, 100]⟩ : ByteArray).extract j (j + 1) = str [UInt8.ofNat (97 + j)] := by
  match j, h with
  | 0, _ => rfl
  | 1, _ => rfl
  | 2, _ => rfl
  | 3, _ => rfl
theorem Sr.drewN {w : World} {g : Nat} {v : Value} {zl : List Int} (k : Nat) (h : Sr w g v zl) : Sr (w.drewN k) g v zl := by
  have h2 := Src.drewN k h
  exact ⟨Below.refl _ _, h2.base, h2.lt, h2.c0, h2.c1, h2.fr, h2.rd.below h2.below, h2.wf⟩
theorem Sr.drew {w : World} {g : Nat} {v : Value} {zl : List Int} (h : Sr w g v zl) : Sr w.drew g v zl := h.drewN 1
theorem Sr.set {w : World} {g : Nat} {v : Value} {zl : List Int} (h : Sr w g v zl) (i : Nat) (hi : i ≤ zl.length) : Sr (w.setCell ⟨g, 1, none⟩ (.int .i64 (i : Int))) g v zl := by
  have h2 := Src.set h i hi
  exact ⟨Below.refl _ _, h2.base, h2.lt, h2.c0, h2.c1, h2.fr, h2.rd.below h2.below, h2.wf⟩
/-- It returns v in the world w'. -/
def RetG (v : Value) (w' : World) : Ending → World → Prop := fun e w'' => e = .returned v ∧ w'' = w'
end Go.SC
namespace Go.Proofs.Ytjbkeipagdmlpaa
open Go.RowKit Go.VB Go.VL Go.SC
set_option linter.constructorNameAsVariable false
set_option maxRecDepth 100000 in
set_option maxHeartbeats 400000 in
theorem gfrom_any (A : Option Addr) (n c : Nat) (w : World) : Calls Try.prog 38 #[.slice A n c] w (RetG (.pointer (some ⟨w.heap.size, 0, none⟩)) (w.alloc (.cells #[.slice A n c, .int .i64 0] 79))) := by
  go_enter Try.func38, Try.ntmps38
  go_wp2
  go_ret
  exact ⟨rfl, rfl⟩
set_option maxRecDepth 100000 in
set_option maxHeartbeats 2000000 in
theorem nxt_any (w : World) (g : Nat) (v : Value) (zl : List Int) (n : Int) (hs : Sr w g v zl) (hn : 1 ≤ n) (hn2 : n ≤ 4611686018427387904) :
    Calls Try.prog 39 #[.pointer (some ⟨g, 0, none⟩), .int .i64 n] w (NxtP w g v zl n) := by
  obtain ⟨i, hi, hil⟩ := hs.c1
  have hc0 := hs.c0
  have hfr := hs.fr
  have hrd := hs.rd
  have hlt := hs.lt
  have hwf := hs.wf
  have HM := fun k x h => NxtP.mk' (w := w) (n := n) (hs.drewN k) ((But.refl g w).drewN k) (x := .int .i64 x) rfl h
  have HV := fun k m x (j : Nat) (hj : j ≤ zl.length) h => NxtP.mk' (w := w) (n := n) (((hs.drewN m).set j hj).drewN k) ((((But.refl g w).drewN m).set 1 (.int .i64 (j : Int))).drewN k) (x := .int .i64 x) rfl h
  clear hs
  generalize hQ : NxtP w g v zl n = Q at *
  clear hQ
  have HM' := Lib.hid HM; have HV' := Lib.hid HV; clear HM HV
  obtain ⟨A, c, rfl, hc, hm, hr⟩ := hrd
  unfold maxLen at hm
  by_cases he : i = zl.length
  · have hd : decide (zl.length ≤ i) = true := decide_eq_true (by omega)
    clear hr
    go_enter Try.func39, Try.ntmps39
    go_wp2_with fail
    go_quiet (fail)
    go_wp2
    exact HM'.out _ 0 ⟨by omega, by omega⟩
  · have hlt2 : i < zl.length := by omega
    have hd : decide (zl.length ≤ i) = false := decide_eq_false (by omega)
    obtain ⟨ad, hA, hab, hac⟩ := hr i hlt2
    subst hA
    have hz := hwf _ (get_mem_int hlt2)
    generalize zl.getD i 0 = z at *
    clear hr hwf he
    have HP := fun w => Lib.hid (pick_at z n w hz hn hn2)
    have hp := pickN_bd z (n := n) (by omega)
    generalize pickN z n = p at *
    clear hz
    go_enter Try.func39, Try.ntmps39
    go_wp2_with fail
    go_quiet (fail)
    have k0 : ((w.drewN nq).setCell ⟨g, 1, none⟩ (.int .i64 ((i : Int) + 1))).cell? ⟨g, 0, none⟩ = some (.slice (some ad) zl.length c) :=
      (World.cell?_setCell_other _ _ _ _ (by simp)).trans ((drewN_cell w nq _).trans hc0)
    have k1 : ((w.drewN nq).setCell ⟨g, 1, none⟩ (.int .i64 ((i : Int) + 1))).cell? ⟨g, 1, none⟩ = some (.int .i64 ((i : Int) + 1)) :=
      World.cell?_setCell_same _ _ _ ((drewN_cell w nq _).trans hi)
    have k2 : ((w.drewN nq).setCell ⟨g, 1, none⟩ (.int .i64 ((i : Int) + 1))).cell? (ad.add i) = some (.int .i64 z) :=
      (World.cell?_setCell_other _ _ _ _ (fun e => by have h := congrArg Addr.block e; rw [block_add] at h; simp at h; omega)).trans ((drewN_cell w nq _).trans hac)
    have HE := fun k => HV'.out k nq p (i + 1) (by omega) hp
    push_cast at HE
    go_wp2_with fail
    clear HV' HM' hc0 hi hac hfr
    generalize (w.drewN nq).setCell ⟨g, 1, none⟩ (.int .i64 ((i : Int) + 1)) = w1 at *
    go_quiet (first | (go_at_call 15; refine quiet6 (HP _).out))
    go_wp2
    exact HE _
set_option maxRecDepth 100000 in
set_option maxHeartbeats 8000000 in
theorem kSch_any (W : World) (v : Value) (zl : List Int) (hr : RdI .i64 W W.heap.size v zl) (hw : ∀ z ∈ zl, (Lit.int .i64 z).wf = true) :
    Calls Try.prog 13 #[v] W (KSch 66 W) := by
  obtain ⟨A, c, rfl, hc, hm, hrr⟩ := hr
  have hr : RdI .i64 W W.heap.size (.slice A zl.length c) zl := ⟨A, c, rfl, hc, hm, hrr⟩
  clear hc hm hrr
  obtain ⟨X, hX⟩ : ∃ X, X = ((W.alloc (.cells #[.slice none 0 0, .int .i64 0] 28)).alloc (.cells #[.slice A zl.length c, .int .i64 0] 79)).alloc (.cells #[.slice none 0 0, .int .i64 0] 28) := ⟨_, rfl⟩
  have hB : Below W.heap.size W X := by rw [hX]; exact (((Below.refl _ _).alloc (Nat.le_refl _) _).alloc (by simp) _).alloc (by simp; omega) _
  have hsz : X.heap.size = W.heap.size + 3 := by rw [hX]; simp
  have hv0 := Var2.new W (.slice none 0 0) (.int .i64 0) 28
  have hv1 := hv0.step ((Below.refl _ _).alloc (Nat.le_refl _) (.cells #[.slice A zl.length c, .int .i64 0] 79))
  have hV := hv1.step ((Below.refl _ _).alloc (Nat.le_refl _) (.cells #[.slice none 0 0, .int .i64 0] 28))
  have hs1 := Var2.new (W.alloc (.cells #[.slice none 0 0, .int .i64 0] 28)) (.slice A zl.length c) (.int .i64 0) 79
  have hs2 := hs1.step ((Below.refl _ _).alloc (Nat.le_refl _) (.cells #[.slice none 0 0, .int .i64 0] 28))
  have hV2 := Var2.new ((W.alloc (.cells #[.slice none 0 0, .int .i64 0] 28)).alloc (.cells #[.slice A zl.length c, .int .i64 0] 79)) (.slice none 0 0) (.int .i64 0) 28
  rw [show (W.alloc (.cells #[.slice none 0 0, .int .i64 0] 28)).heap.size = W.heap.size + 1 from by simp] at hs2
  rw [show ((W.alloc (.cells #[.slice none 0 0, .int .i64 0] 28)).alloc (.cells #[.slice A zl.length c, .int .i64 0] 79)).heap.size = W.heap.size + 2 from by simp] at hV2
  rw [← hX] at hV hs2 hV2
  clear hv0 hv1 hs1
  have hS : Sr X (W.heap.size + 1) (.slice A zl.length c) zl := ⟨Below.refl _ _, Nat.le_refl _, by omega, hs2.c0, ⟨0, hs2.c1, Nat.zero_le _⟩, hs2.f1, (hr.below hB).more (by omega), hw⟩
  clear hs2
  have hF := fun w => Lib.hid (gfrom_any A zl.length c w)
  have HN := fun n w hs h1 h2 => Lib.hid (nxt_any w (W.heap.size + 1) (.slice A zl.length c) zl n hs h1 h2)
  have hN4 := (HN 4 X hS (by decide) (by decide))
  clear hr hw
  go_enter Try.func13, Try.ntmps13
  go_wp2_with fail
  refine (hF _).out.mono ?_
  rintro e w' ⟨rfl, rfl⟩
  clear hF
  rw [hX] at hN4
  go_wp2_with fail
  refine hN4.out.mono ?_
  rintro e w1 ⟨r, rfl, hr4, hS1, hG1⟩
  rw [← hX] at hG1
  clear hX hN4 hS
  have hsz1 : W.heap.size + 3 ≤ w1.heap.size := by rw [hG1.size]; omega
  replace hV := hG1.var2 hV (by omega)
  replace hV2 := hG1.var2 hV2 (by omega)
  replace hB := hG1.below hB (by omega)
  clear hG1 hsz
  go_wp2_with fail
  go_loopw [5, 6] (fun t5 _ wr => ∃ (m : Nat) (cs : List Col), t5 = .int .i64 (m : Nat) ∧ cs.length + m = r + 1 ∧ Below W.heap.size W wr ∧ W.heap.size + 3 ≤ wr.heap.size ∧ Hid (Sr wr (W.heap.size + 1) (.slice A zl.length c) zl) ∧ Hid (Var2 wr W.heap.size (.slice none 0 0) (.int .i64 0)) ∧
      Hid (∃ sv, Var2 wr (W.heap.size + 2) sv (.int .i64 0) ∧ OwnC 66 wr (W.heap.size + 3) sv cs) ∧ Hid (KAt (r + 1) cs)) (fun t5 _ _ => (intOf t5).toNat)
  case atStart => exact ⟨r + 1, [], by go_num, by simp, hB, hsz1, Lib.hid hS1, Lib.hid hV, Lib.hid ⟨_, hV2, OwnC.nil _ _ _⟩, Lib.hid (fun i hi => absurd hi (Nat.not_lt_zero _))⟩
  case round =>
    clear hB hsz1 hS1 hV hV2
    obtain ⟨m, cs, rfl, hlen, hB, hsz, HS, HV, HO, HK⟩ := hrel
    by_cases hm : m = 0
    · subst hm
      obtain ⟨sv, hvs, hown⟩ := HO.out
      obtain ⟨A2, c2, rfl, _⟩ := hown.read
      have hV := HV.out
      have hNk := Lib.hid (HN (cs.length : Nat) wr HS.out (by omega) (by omega)).out
      have hKO : Hid (∀ key : Nat, (key : Int) < (cs.length : Nat) → KOK cs key) := Lib.hid fun key hk => ⟨by omega, by omega, by rw [show cs.length = r + 1 from by omega]; exact HK.out, by omega, hk⟩
      clear HN HS HV HO HK
      obtain ⟨s0, s1, s2, s3⟩ := id hvs
      go_wp2_with fail
      refine hNk.out.mono ?_
      rintro e w2 ⟨key, rfl, hkey, _, hG⟩
      have hV2 := hG.var2 hV (by omega)
      have hvs2 := hG.var2 hvs (by omega)
      have hB2 := hG.below hB (by omega)
      have ho2 := hG.own hown (by omega)
      have hKK := Lib.hid (hKO.out key hkey)
      clear hNk hKO hG hV hvs hB hown s0 s1 s2 s3 hkey hlen
      have hV3 := hV2.other2 (c := W.heap.size + 2) (i := 1) (u := .int .i64 (key : Int)) (by omega)
      have hvs3 := hvs2.set1s (.int .i64 (key : Int))
      have hB3 : Below W.heap.size W (w2.setCell ⟨W.heap.size + 2, 1, none⟩ (.int .i64 (key : Int))) := hB2.setCell (p := ⟨W.heap.size + 2, 1, none⟩) (by show W.heap.size ≤ W.heap.size + 2; omega) _
      have ho3 : OwnC 66 (w2.setCell ⟨W.heap.size + 2, 1, none⟩ (.int .i64 (key : Int))) (W.heap.size + 3) (.slice A2 cs.length c2) cs := ownsRow_setCell_below ho2 (a := ⟨W.heap.size + 2, 1, none⟩) (by show W.heap.size + 2 < W.heap.size + 3; omega) _
      clear hB2 ho2
      have hVr := hV3.set01 (.slice A2 cs.length c2) (.int .i64 (key : Int))
      have hBr : Below W.heap.size W (((w2.setCell ⟨W.heap.size + 2, 1, none⟩ (.int .i64 (key : Int))).setCell ⟨W.heap.size, 0, none⟩ (.slice A2 cs.length c2)).setCell ⟨W.heap.size, 1, none⟩ (.int .i64 (key : Int))) :=
        (hB3.setCell (p := ⟨W.heap.size, 0, none⟩) (Nat.le_refl _) _).setCell (p := ⟨W.heap.size, 1, none⟩) (Nat.le_refl _) _
      have hor : OwnC 66 (((w2.setCell ⟨W.heap.size + 2, 1, none⟩ (.int .i64 (key : Int))).setCell ⟨W.heap.size, 0, none⟩ (.slice A2 cs.length c2)).setCell ⟨W.heap.size, 1, none⟩ (.int .i64 (key : Int))) (W.heap.size + 3) (.slice A2 cs.length c2) cs :=
        ownsRow_setCell_below (ownsRow_setCell_below ho3 (a := ⟨W.heap.size, 0, none⟩) (by show W.heap.size < W.heap.size + 3; omega) _) (a := ⟨W.heap.size, 1, none⟩) (by show W.heap.size < W.heap.size + 3; omega) _
      clear hB3 ho3
      obtain ⟨s0, s1, s2, s3⟩ := hvs2
      obtain ⟨x0, x1, x2, x3⟩ := hvs3
      obtain ⟨q0, q1, q2, q3⟩ := hV3
      clear hV2
      go_wp2_with fail
      generalize ((w2.setCell ⟨W.heap.size + 2, 1, none⟩ (.int .i64 (key : Int))).setCell ⟨W.heap.size, 0, none⟩ (.slice A2 cs.length c2)).setCell ⟨W.heap.size, 1, none⟩ (.int .i64 (key : Int)) = w9 at *
      obtain ⟨m0, m1, _, _⟩ := hVr
      refine bodyPost_ret (v := .agg #[.slice A2 cs.length c2, .int .i64 (key : Int)]) (by simp [results, Try.results13, go_sem, m0, m1]) rfl ?_
      exact ⟨hBr, _, cs, key, rfl, hor.lower (by omega), hKK.out⟩
    · obtain ⟨j, rfl⟩ : ∃ j, m = j + 1 := ⟨m - 1, by omega⟩
      have hcut := abcd_cut j (by omega)
      obtain ⟨NM, hNM⟩ : ∃ NM, str [UInt8.ofNat (97 + j)] = NM := ⟨_, rfl⟩
      rw [hNM] at hcut
      have HNM := Lib.hid hNM
      clear hNM
      have hj4 : j < 4 := by omega
      have e1 : IntKind.i64.wrap (j : Int) = (j : Int) := IntWalk.i64_in _ ⟨by omega, by omega⟩
      have e2 : (0 : Int) ≤ (j : Int) + 1 := by omega
      have c1 : (0 : Int) ≤ (j : Int) := by omega
      have c2 : (j : Int) ≤ (j : Int) + 1 := by omega
      have c3 : (j : Int) + 1 ≤ 4 := by omega
      clear hm
      have HNx := fun n h1 h2 w (hs : Sr w (W.heap.size + 1) (.slice A zl.length c) zl) => HN n w hs h1 h2
      have HN5 := Lib.hid (HNx 5 (by decide) (by decide))
      have HN4 := Lib.hid (HNx 4 (by decide) (by decide))
      have HN2 := Lib.hid (HNx 2 (by decide) (by decide))
      clear HN HNx
      have hS := HS.out
      have hNV : Var4F (wr.alloc (.cells #[.string ⟨#[]⟩, .int .i64 0, .int .i64 0, .bool false] 66)).drew wr.heap.size (.string ⟨#[]⟩) (.int .i64 0) (.int .i64 0) (.bool false) := (Var4F.new wr _ _ _ _ _).step ((Below.refl _ _).drew)
      have hdz : wr.drew.heap.size = wr.heap.size := rfl
      have hdz2 : (wr.alloc (.cells #[.string ⟨#[]⟩, .int .i64 0, .int .i64 0, .bool false] 66)).drew.heap.size = wr.heap.size + 1 := by show (wr.alloc (.cells #[.string ⟨#[]⟩, .int .i64 0, .int .i64 0, .bool false] 66)).heap.size = _; simp
      clear HS
      go_upto_region 6 with fail
      go_cut [6] from 12 to 38 (fun cp w' => ∃ (b r5 : Nat) (nu : Bool), cp = .pointer (some ⟨b, 0, none⟩) ∧ r5 < 5 ∧ wr.heap.size ≤ b ∧ Sr w' (W.heap.size + 1) (.slice A zl.length c) zl ∧ GB (W.heap.size + 1) wr w' ∧ Var4F w' b (.string NM) (.int .i64 (1 + (r5 : Int))) (.int .i64 0) (.bool nu))
      case first =>
        go_region_with (first
          | (go_at_call_of 39 (Value.int .i64 5); (with_reducible refine (HN5.out _ ?_).out.mono ?_); (first | (with_reducible exact hS2) | (with_reducible exact Sr.alc hS2 _) | (with_reducible exact Sr.drew hS) | (with_reducible exact Sr.drew (Sr.alc hS _))); rintro e w5 ⟨r5, rfl, hr5, hS5, hG5⟩; have hz5 := hG5.size; have hw5 : IntKind.i64.wrap (1 + (r5 : Int)) = 1 + (r5 : Int) := IntWalk.i64_in _ ⟨by omega, by omega⟩; (first | (with_reducible have hy := But.var4 hG5 hNV (by omega); obtain ⟨k0, k1, k2, k3, f0, f1, f2, f3⟩ := hy) | (with_reducible have hy := But.var4 hG5 ⟨k0, k1, k2, k3, f0, f1, f2, f3⟩ (by omega); obtain ⟨k0, k1, k2, k3, f0, f1, f2, f3⟩ := hy) | (with_reducible have hy := But.var4 hG5 (Var4F.new w2 (.string ⟨#[]⟩) (.int .i64 0) (.int .i64 0) (.bool false) 66) (by omega); have hq := hz2.trans hdz; rw [hq] at hy; obtain ⟨k0, k1, k2, k3, f0, f1, f2, f3⟩ := hy) | (skip)))
          | (go_at_call_of 39 (Value.int .i64 2); (with_reducible refine (HN2.out _ ?_).out.mono ?_); (first | (with_reducible exact hS5) | (with_reducible exact Sr.alc hS5 _) | (with_reducible exact Sr.drew hS) | (with_reducible exact Sr.drew (Sr.alc hS _))); rintro e w2 ⟨r2, rfl, hr2, hS2, hG2⟩; have hz2 := hG2.size; (first | (with_reducible have hy := But.var4 hG2 hNV (by omega); obtain ⟨k0, k1, k2, k3, f0, f1, f2, f3⟩ := hy) | (with_reducible have hy := But.var4 hG2 ⟨k0, k1, k2, k3, f0, f1, f2, f3⟩ (by omega); obtain ⟨k0, k1, k2, k3, f0, f1, f2, f3⟩ := hy) | (with_reducible have hy := But.var4 hG2 (Var4F.new w5 (.string ⟨#[]⟩) (.int .i64 0) (.int .i64 0) (.bool false) 66) (by omega); have hq := hz5.trans hdz; rw [hq] at hy; obtain ⟨k0, k1, k2, k3, f0, f1, f2, f3⟩ := hy) | (skip))))
        all_goals clear HN5 HN2 HV HO HNM HK
        · go_wp2_with fail
          go_meet
          case rel =>
            have hq := (hz2.trans hz5).trans hdz
            have hv := Var4F.new w2 (.string NM) (.int .i64 (1 + (r5 : Int))) (.int .i64 0) (.bool ((r2 : Int) == 0)) 66
            rw [hq] at hv
            exact ⟨wr.heap.size, r5, ((r2 : Int) == 0), rfl, by omega, Nat.le_refl _, hS2.alc _, (((GB.drew _ wr).but hG5).but hG2).alloc _, hv⟩
        · go_wp2_with fail
          go_meet
          case rel => exact ⟨_, r5, _, rfl, by omega, Nat.le_refl _, hS2.but ((But.refl _ w2).set4 _ _ _ _) (by omega), (((((GB.drew _ wr).but hG5).alloc _).but hG2)).set4 (Nat.le_refl _) _ _ _ _, Var4F.set ⟨k0, k1, k2, k3, f0, f1, f2, f3⟩ _ _ _ _⟩
        · go_wp2_with fail
          go_meet
          case rel => exact ⟨_, r5, _, rfl, by omega, Nat.le_refl _, hS2.but ((But.refl _ w2).set4 _ _ _ _) (by omega), (((GB.alloc0 _ wr _).but hG5).but hG2).set4 (Nat.le_refl _) _ _ _ _, Var4F.set ⟨k0, k1, k2, k3, f0, f1, f2, f3⟩ _ _ _ _⟩
      case rest =>
        obtain ⟨b, r5, nu, rfl, hr5, hbw, hS2, hGB, hVb⟩ := hcut
        clear hS hNV hdz hdz2 hcut
        obtain ⟨ty, hty⟩ : ∃ ty : Int, 1 + (r5 : Int) = ty := ⟨_, rfl⟩
        rw [hty] at hVb
        have hokt : okT ty = true := decide_eq_true (by omega)
        clear hty hr5
        have hbg : b ≠ W.heap.size + 1 := by omega
        obtain ⟨k0, k1, k2, k3, f0, f1, f2, f3⟩ := id hVb
        go_upto_if 29 with fail
        go_cut [6] from 12 to 38 (fun cp w' => ∃ (sc : Int), cp = .pointer (some ⟨b, 0, none⟩) ∧ 0 ≤ sc ∧ sc ≤ 3 ∧ (ty ≠ 5 → sc = 0) ∧ Sr w' (W.heap.size + 1) (.slice A zl.length c) zl ∧ GB (W.heap.size + 1) wr w' ∧ Var4F w' b (.string NM) (.int .i64 ty) (.int .i64 sc) (.bool nu))
        case first =>
          clear HV HO HNM HK
          by_cases h5 : ty = 5
          · have hd : (ty == 5) = true := ieq_t h5
            have hN4 := Lib.hid (HN4.out _ hS2).out
            clear HN4
            go_wp2_with fail
            refine hN4.out.mono ?_
            rintro e w4 ⟨r4, rfl, hr4, hS4, hG4⟩
            have hV4 := hG4.var4 hVb hbg
            have hGB4 := hGB.but hG4
            clear k0 k1 k2 k3 f0 f1 f2 f3 hVb
            obtain ⟨k0, k1, k2, k3, f0, f1, f2, f3⟩ := id hV4
            go_wp2_with fail
            go_meet
            case rel => exact ⟨r4, rfl, by omega, by omega, fun h => absurd h5 h, hS4.but ((But.refl b w4).set 2 _) (by omega), hGB4.set (p := ⟨b, 2, none⟩) hbw _, hV4.set2 _⟩
          · have hd : (ty == 5) = false := ieq_f h5
            go_wp2_with fail
            go_meet
            case rel => exact ⟨0, rfl, by omega, by omega, fun _ => rfl, hS2, hGB, hVb⟩
        case rest =>
          clear k0 k1 k2 k3 f0 f1 f2 f3 hVb hGB hS2
          obtain ⟨sc, rfl, hsc0, hsc3, hsc5, hS3, hGB3, hVb⟩ := hcut
          have hB3 := hGB3.below hB (by omega) (by omega)
          have hV3 := hGB3.var2 HV.out (by omega)
          obtain ⟨sv, hvs, hown⟩ := HO.out
          have hVS := hGB3.var2 hvs (by omega)
          have hO3 := hGB3.own hown (by omega)
          have hsz3 : W.heap.size + 3 ≤ wc.heap.size := by have := hGB3.size; omega
          have hsv := hO3.read
          obtain ⟨A2, c2, rfl, _⟩ := hsv
          have HKn := Lib.hid (HK.out.snoc (j := j) (c := ⟨NM, ty, sc, nu⟩) hlen HNM.out.symm hokt ⟨hsc0, hsc3⟩ hsc5)
          clear hvs hown HO HV hGB3 hB hsz hokt HNM HK hsc0 hsc3 hsc5 hbw hbg HN4
          have hS4 := hS3.alc (.cells #[.string NM, .int .i64 ty, .int .i64 sc, .bool nu] 66)
          have hV4 := hV3.step ((Below.refl _ _).alloc (Nat.le_refl _) (.cells #[.string NM, .int .i64 ty, .int .i64 sc, .bool nu] 66))
          have hVS4 := hVS.step ((Below.refl _ _).alloc (Nat.le_refl _) (.cells #[.string NM, .int .i64 ty, .int .i64 sc, .bool nu] 66))
          have hB4 := hB3.alloc (by omega) (.cells #[.string NM, .int .i64 ty, .int .i64 sc, .bool nu] 66)
          have hsz4 : W.heap.size + 3 ≤ (wc.alloc (.cells #[.string NM, .int .i64 ty, .int .i64 sc, .bool nu] 66)).heap.size := by simp; omega
          have HCN := Lib.hid (cells_newC wc ⟨NM, ty, sc, nu⟩ 66)
          have HOWN := Lib.hid (hO3.alloc (.cells #[.string NM, .int .i64 ty, .int .i64 sc, .bool nu] 66))
          have hcl : cs.length < 1000000 := by omega
          clear hV3 hO3 hB3 hS3
          obtain ⟨s0, s1, s2, s3⟩ := hVS
          obtain ⟨k0, k1, k2, k3, f0, f1, f2, f3⟩ := hVb
          go_wp2_with (at_builtin; refine wpl_appC rfl _ _ 26 rfl (W.heap.size + 3) 66 Try.underlying26 Try.infCol (.slice A2 cs.length c2) cs rfl HOWN.out wc.heap.size 1 ⟨NM, ty, sc, nu⟩ rfl ?_ hcl hsz4 ?_)
          · intro j u hj
            have h1 := HCN.out j u hj
            first | exact h1 | exact hj
          · intro v' w' ho hb2
            obtain ⟨A', cap', rfl, _, _, _⟩ := ho.read
            obtain ⟨cs', hcs'⟩ : ∃ cs', cs ++ [(⟨NM, ty, sc, nu⟩ : Col)] = cs' := ⟨_, rfl⟩
            have hLN := Lib.hid (show cs'.length = cs.length + 1 from by rw [← hcs']; simp)
            rw [hcs'] at ho HKn ⊢
            clear hcs' HCN HOWN s0 s1 s2 s3 k0 k1 k2 k3 f0 f1 f2 f3
            generalize wc.alloc (.cells #[.string NM, .int .i64 ty, .int .i64 sc, .bool nu] 66) = w4 at *
            have hS5 := hS4.below hb2 (by omega)
            have hV5 := hV4.below hb2 (by omega)
            have hVS5 := hVS4.below hb2 (by omega)
            have hB5 := hB4.trans (hb2.mono (by omega))
            have hsz5 : W.heap.size + 3 ≤ w'.heap.size := by have := hb2.size; omega
            clear hV4 hVS4 hB4 hsz4 hb2 hS4
            have hS6 := Lib.hid (hS5.but (c := W.heap.size + 2) ((But.refl _ w').set 0 (.slice A' cs'.length cap')) (by omega))
            have hV6 := Lib.hid (hV5.other2 (c := W.heap.size + 2) (i := 0) (u := .slice A' cs'.length cap') (by omega))
            have hVS6 := hVS5.set00 (.slice A' cs'.length cap')
            have hB6 : Below W.heap.size W (w'.setCell ⟨W.heap.size + 2, 0, none⟩ (.slice A' cs'.length cap')) := hB5.setCell (p := ⟨W.heap.size + 2, 0, none⟩) (by show W.heap.size ≤ W.heap.size + 2; omega) _
            have ho6 : OwnC 66 (w'.setCell ⟨W.heap.size + 2, 0, none⟩ (.slice A' cs'.length cap')) (W.heap.size + 3) (.slice A' cs'.length cap') cs' := ownsRow_setCell_below ho (a := ⟨W.heap.size + 2, 0, none⟩) (by show W.heap.size + 2 < W.heap.size + 3; omega) _
            have hsz6 : W.heap.size + 3 ≤ (w'.setCell ⟨W.heap.size + 2, 0, none⟩ (.slice A' cs'.length cap')).heap.size := by rw [World.size_setCell]; exact hsz5
            have HO6 : Hid (∃ v, Var2 (w'.setCell ⟨W.heap.size + 2, 0, none⟩ (.slice A' cs'.length cap')) (W.heap.size + 2) v (.int .i64 0) ∧ OwnC 66 (w'.setCell ⟨W.heap.size + 2, 0, none⟩ (.slice A' cs'.length cap')) (W.heap.size + 3) v cs') := Lib.hid ⟨_, hVS6, ho6⟩
            clear hVS6 ho6 hV5 hB5 hsz5 ho hS5
            obtain ⟨s0, s1, s2, s3⟩ := hVS5
            go_wp2_with fail
            go_roundw
            case rel => exact ⟨j, cs', by go_num, by rw [hLN.out]; omega, hB6, hsz6, hS6, hV6, HO6, HKn⟩
            case measure => simp [intOf] <;> omega
end Go.Proofs.Ytjbkeipagdmlpaa
