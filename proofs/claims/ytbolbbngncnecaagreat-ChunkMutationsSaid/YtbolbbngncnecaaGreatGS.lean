/- Several texts in one: Src. -/
import Derived.Test.YtbolbbngncnecaaGreatG0
import Derived.Deep.RegionWith
import Derived.BigQuiet
/- keep's Source: choices out of a list of whole numbers; what is written between them. -/
namespace Go.KS
open Go.RowKit Go.VB
theorem mem_getD {l : List Int} {i : Nat} (h : i < l.length) : l.getD i 0 ∈ l := by
  rw [List.getD_eq_getElem?_getD, List.getElem?_eq_getElem h]; exact List.getElem_mem h
theorem cell_drewN (w : World) (k : Nat) (a : Addr) : (w.drewN k).cell? a = w.cell? a := by
  induction k generalizing w with
  | zero => rfl
  | succ k ih => exact ih w
theorem frozen_drewN (w : World) (k : Nat) (a : Addr) : (w.drewN k).frozen? a = w.frozen? a := by
  induction k generalizing w with
  | zero => rfl
  | succ k ih => exact ih w
theorem size_drewN (w : World) (k : Nat) : (w.drewN k).heap.size = w.heap.size := by
  induction k generalizing w with
  | zero => rfl
  | succ k ih => exact ih w
/-- The world is as it was but for block g. -/
structure But (g : Nat) (w w' : World) : Prop where
  os : w'.os = w.os
  tape : w'.tape = w.tape
  output : w'.output = w.output
  size : w'.heap.size = w.heap.size
  block : ∀ k, k ≠ g → w'.heap[k]? = w.heap[k]?
theorem But.refl (g : Nat) (w : World) : But g w w := ⟨rfl, rfl, rfl, rfl, fun _ _ => rfl⟩
theorem But.drew {g : Nat} {a b : World} (h : But g a b) : But g a b.drew := ⟨h.os, h.tape, h.output, h.size, h.block⟩
theorem But.drewN {g : Nat} {a b : World} (k : Nat) (h : But g a b) : But g a (b.drewN k) := by
  induction k generalizing b with
  | zero => exact h
  | succ k ih => exact (ih h).drew
theorem But.set {g : Nat} {a b : World} (h : But g a b) (i : Nat) (x : Value) : But g a (b.setCell ⟨g, i, none⟩ x) :=
  ⟨h.os, h.tape, h.output, (World.size_setCell _ _ _).trans h.size, fun k hk => (Below.heap_setCell _ _ _ _ hk).trans (h.block k hk)⟩
theorem But.below {g B : Nat} {a b w0 : World} (h : But g a b) (h0 : Below B w0 a) (hB : B ≤ g) : Below B w0 b :=
  ⟨h.os.trans h0.os, h.tape.trans h0.tape, h.output.trans h0.output, by rw [h.size]; exact h0.size, fun k hk => (h.block k (by omega)).trans (h0.block k hk)⟩
theorem But.own {α : Type} {f : α → Value} {g : Nat} {a c : World} {e : TypeId} {base : Nat} {v : Value} {l : List α} (h : But g a c) (hv : OwnV f e a base v l) (hb : g < base) : OwnV f e c base v l := by
  refine World.ownsRow.kept (row := some g) hv ⟨h.os, h.tape, h.output, by rw [h.size]; exact Nat.le_refl _, fun k _ hk => h.block k (fun e => hk (by rw [e]))⟩ (.inr fun e => ?_)
  have := (OwnV.lt hv g e).1
  omega
/-- A source in block g. -/
structure Sr (w : World) (g : Nat) (v : Value) (zl : List Int) : Prop where
  lt : g < w.heap.size
  c0 : w.cell? ⟨g, 0, none⟩ = some v
  c1 : ∃ i : Nat, w.cell? ⟨g, 1, none⟩ = some (.int .i64 (i : Int)) ∧ i ≤ zl.length
  fr : w.frozen? ⟨g, 1, none⟩ = false
  rd : RdI .i64 w g v zl
  wf : ∀ z ∈ zl, (Lit.int .i64 z).wf = true
theorem Sr.drew {w : World} {g : Nat} {v : Value} {zl : List Int} (h : Sr w g v zl) : Sr w.drew g v zl := ⟨h.lt, h.c0, h.c1, h.fr, h.rd, h.wf⟩
theorem Sr.drewN {w : World} {g : Nat} {v : Value} {zl : List Int} (k : Nat) (h : Sr w g v zl) : Sr (w.drewN k) g v zl := by
  induction k generalizing w with
  | zero => exact h
  | succ k ih => exact (ih h).drew
theorem Sr.below {w w' : World} {g B : Nat} {v : Value} {zl : List Int} (h : Sr w g v zl) (hb : Below B w w') (hg : g < B) : Sr w' g v zl :=
  have f2 : w'.frozen? ⟨g, 1, none⟩ = w.frozen? ⟨g, 1, none⟩ := World.frozen?_of_block (hb.block g hg)
  ⟨Nat.lt_of_lt_of_le h.lt hb.size, (hb.cell (p := ⟨g, 0, none⟩) hg).trans h.c0, let ⟨i, e, hi⟩ := h.c1; ⟨i, (hb.cell (p := ⟨g, 1, none⟩) hg).trans e, hi⟩, f2.trans h.fr, h.rd.below (hb.mono (by omega)), h.wf⟩
theorem Sr.set {w : World} {g : Nat} {v : Value} {zl : List Int} (h : Sr w g v zl) (i : Nat) (hi : i ≤ zl.length) : Sr (w.setCell ⟨g, 1, none⟩ (.int .i64 (i : Int))) g v zl := by
  obtain ⟨j, hj, _⟩ := h.c1
  refine ⟨by rw [World.size_setCell]; exact h.lt, ?_, ⟨i, World.cell?_setCell_same _ _ _ hj, hi⟩, ?_, ?_, h.wf⟩
  · rw [World.cell?_setCell_other _ _ _ _ (by simp)]; exact h.c0
  · rw [World.frozen?_setCell]; exact h.fr
  · exact h.rd.below ((But.refl g w).set 1 (.int .i64 (i : Int)) |>.below (Below.refl _ _) (Nat.le_refl _))
/-- A choice that meets p: the world is as it was but for the source. -/
def ChP (p : Int → Prop) (w : World) (g : Nat) (v : Value) (zl : List Int) : Ending → World → Prop := fun e w' => ∃ r : Int, e = .returned (.int .i64 r) ∧ p r ∧ Sr w' g v zl ∧ But g w w'
theorem ChP.mk {p : Int → Prop} {w w' : World} {g : Nat} {v : Value} {zl : List Int} {r : Int} {x : Value} (hs : Sr w' g v zl) (hb : But g w w') (hx : x = .int .i64 r) (hp : p r) : ChP p w g v zl (.returned x) w' := ⟨r, by rw [hx], hp, hs, hb⟩
/-- Whether choices are left. -/
def LeP (w : World) (g : Nat) (v : Value) (zl : List Int) : Ending → World → Prop := fun e w' => ∃ b : Bool, e = .returned (.bool b) ∧ Sr w' g v zl ∧ But g w w'
theorem LeP.mk {w w' : World} {g : Nat} {v : Value} {zl : List Int} {b : Bool} {x : Value} (hs : Sr w' g v zl) (hb : But g w w') (hx : x = .bool b) : LeP w g v zl (.returned x) w' := ⟨b, by rw [hx], hs, hb⟩
/-- It returns v and leaves the world W. -/
def RetW (v : Value) (W : World) : Ending → World → Prop := fun e w' => e = .returned v ∧ w' = W
theorem RetW.mk {x v : Value} {W w : World} (h : x = v) (hw : w = W) : RetW v W (.returned x) w := ⟨by rw [h], hw⟩
theorem quietK {P : Program} {f : FuncId} {args : Array Value} {w : World} {n : Nat} {v : Value} (h : Calls P f args (w.drewN n) (Ret v (w.drewN n))) :
    Calls P f args (w.drewN n) fun e w'' => e = .returned v ∧ ∃ m, w'' = w.drewN m := h.mono fun _ _ ⟨he, hm⟩ => ⟨he, n, hm.symm⟩
end Go.KS
namespace Go.Proofs.YtbolbbngncnecaaGreat
open Go.RowKit Go.VB Go.KS
set_option maxRecDepth 100000 in
set_option maxHeartbeats 2000000 in
theorem knext_any (w : World) (g : Nat) (v : Value) (zl : List Int) (n : Int) (hs : Sr w g v zl) (hn : 1 ≤ n) (hn2 : n ≤ 4611686018427387904) :
    Calls Tryz.prog 21 #[.pointer (some ⟨g, 0, none⟩), .int .i64 n] w (ChP (fun r => 0 ≤ r ∧ r < n) w g v zl) := by
  obtain ⟨i, hi, hil⟩ := hs.c1
  have hc0 := hs.c0
  have hfr := hs.fr
  have hrd := hs.rd
  have hlt := hs.lt
  have hwf := hs.wf
  have HM := fun k x h => ChP.mk (p := fun r => 0 ≤ r ∧ r < n) (w := w) (hs.drewN k) ((But.refl g w).drewN k) (x := .int .i64 x) rfl h
  have HV := fun k m x (j : Nat) (hj : j ≤ zl.length) h => ChP.mk (p := fun r => 0 ≤ r ∧ r < n) (w := w) (((hs.drewN m).set j hj).drewN k) ((((But.refl g w).drewN m).set 1 (.int .i64 (j : Int))).drewN k) (x := .int .i64 x) rfl h
  clear hs
  generalize hQ : ChP (fun r => 0 ≤ r ∧ r < n) w g v zl = Q at *
  clear hQ
  have HM' := Lib.hid HM; have HV' := Lib.hid HV; clear HM HV
  obtain ⟨A, c, rfl, hc, hm, hr⟩ := hrd
  unfold maxLen at hm
  by_cases he : i = zl.length
  · have hd : decide (zl.length ≤ i) = true := decide_eq_true (by omega)
    clear hr
    go_enter Tryz.func21, Tryz.ntmps21
    go_wp2_with fail
    go_quiet (fail)
    go_wp2
    exact HM'.out _ 0 ⟨by omega, by omega⟩
  · have hlt2 : i < zl.length := by omega
    have hd : decide (zl.length ≤ i) = false := decide_eq_false (by omega)
    obtain ⟨ad, hA, hab, hac⟩ := hr i hlt2
    subst hA
    have hz := hwf _ (mem_getD hlt2)
    generalize zl.getD i 0 = z at *
    clear hr hwf he
    have HP := fun w => Lib.hid (pick_at z n w hz hn hn2)
    have hp := pickN_bd z (n := n) (by omega)
    generalize pickN z n = p at *
    clear hz
    go_enter Tryz.func21, Tryz.ntmps21
    go_wp2_with fail
    go_quiet (fail)
    have k0 : ((w.drewN nq).setCell ⟨g, 1, none⟩ (.int .i64 ((i : Int) + 1))).cell? ⟨g, 0, none⟩ = some (.slice (some ad) zl.length c) :=
      (World.cell?_setCell_other _ _ _ _ (by simp)).trans ((cell_drewN w nq _).trans hc0)
    have k1 : ((w.drewN nq).setCell ⟨g, 1, none⟩ (.int .i64 ((i : Int) + 1))).cell? ⟨g, 1, none⟩ = some (.int .i64 ((i : Int) + 1)) :=
      World.cell?_setCell_same _ _ _ ((cell_drewN w nq _).trans hi)
    have k2 : ((w.drewN nq).setCell ⟨g, 1, none⟩ (.int .i64 ((i : Int) + 1))).cell? (ad.add i) = some (.int .i64 z) :=
      (World.cell?_setCell_other _ _ _ _ (fun e => by have h := congrArg Addr.block e; rw [block_add] at h; simp at h; omega)).trans ((cell_drewN w nq _).trans hac)
    have HE := fun k => HV'.out k nq p (i + 1) (by omega) hp
    push_cast at HE
    go_wp2_with fail
    clear HV' HM' hc0 hi hac hfr
    generalize (w.drewN nq).setCell ⟨g, 1, none⟩ (.int .i64 ((i : Int) + 1)) = w1 at *
    go_quiet (first | (go_at_call 6; refine quietK (HP _).out))
    go_wp2
    exact HE _
set_option maxRecDepth 100000 in
set_option maxHeartbeats 2000000 in
theorem kraw_any (w : World) (g : Nat) (v : Value) (zl : List Int) (hs : Sr w g v zl) :
    Calls Tryz.prog 43 #[.pointer (some ⟨g, 0, none⟩)] w (ChP (fun r => (Lit.int .i64 r).wf = true) w g v zl) := by
  obtain ⟨i, hi, hil⟩ := hs.c1
  have hc0 := hs.c0
  have hfr := hs.fr
  have hrd := hs.rd
  have hlt := hs.lt
  have hwf := hs.wf
  have HM := fun k x h => ChP.mk (p := fun r => (Lit.int .i64 r).wf = true) (w := w) (hs.drewN k) ((But.refl g w).drewN k) (x := .int .i64 x) rfl h
  have HV := fun k m x (j : Nat) (hj : j ≤ zl.length) h => ChP.mk (p := fun r => (Lit.int .i64 r).wf = true) (w := w) (((hs.drewN m).set j hj).drewN k) ((((But.refl g w).drewN m).set 1 (.int .i64 (j : Int))).drewN k) (x := .int .i64 x) rfl h
  clear hs
  generalize hQ : ChP (fun r => (Lit.int .i64 r).wf = true) w g v zl = Q at *
  clear hQ
  have HM' := Lib.hid HM; have HV' := Lib.hid HV; clear HM HV
  obtain ⟨A, c, rfl, hc, hm, hr⟩ := hrd
  unfold maxLen at hm
  by_cases he : i = zl.length
  · have hd : decide (zl.length ≤ i) = true := decide_eq_true (by omega)
    clear hr
    go_enter Tryz.func43, Tryz.ntmps43
    go_wp2_with fail
    go_quiet (fail)
    go_wp2
    exact HM'.out _ 0 (by decide)
  · have hlt2 : i < zl.length := by omega
    have hd : decide (zl.length ≤ i) = false := decide_eq_false (by omega)
    obtain ⟨ad, hA, hab, hac⟩ := hr i hlt2
    subst hA
    have hz := hwf _ (mem_getD hlt2)
    generalize zl.getD i 0 = z at *
    clear hr hwf he
    have hp := hz
    clear hz
    go_enter Tryz.func43, Tryz.ntmps43
    go_wp2_with fail
    go_quiet (fail)
    have k0 : ((w.drewN nq).setCell ⟨g, 1, none⟩ (.int .i64 ((i : Int) + 1))).cell? ⟨g, 0, none⟩ = some (.slice (some ad) zl.length c) :=
      (World.cell?_setCell_other _ _ _ _ (by simp)).trans ((cell_drewN w nq _).trans hc0)
    have k1 : ((w.drewN nq).setCell ⟨g, 1, none⟩ (.int .i64 ((i : Int) + 1))).cell? ⟨g, 1, none⟩ = some (.int .i64 ((i : Int) + 1)) :=
      World.cell?_setCell_same _ _ _ ((cell_drewN w nq _).trans hi)
    have k2 : ((w.drewN nq).setCell ⟨g, 1, none⟩ (.int .i64 ((i : Int) + 1))).cell? (ad.add i) = some (.int .i64 z) :=
      (World.cell?_setCell_other _ _ _ _ (fun e => by have h := congrArg Addr.block e; rw [block_add] at h; simp at h; omega)).trans ((cell_drewN w nq _).trans hac)
    have HE := fun k => HV'.out k nq z (i + 1) (by omega) hp
    push_cast at HE
    go_wp2_with fail
    clear HV' HM' hc0 hi hac hfr
    generalize (w.drewN nq).setCell ⟨g, 1, none⟩ (.int .i64 ((i : Int) + 1)) = w1 at *
    go_quiet (fail)
    go_wp2
    exact HE _
set_option maxHeartbeats 400000 in
theorem kfrom_any (A : Option Addr) (n c : Nat) (w : World) : Calls Tryz.prog 20 #[.slice A n c] w (RetW (.pointer (some ⟨w.heap.size, 0, none⟩)) (w.alloc (.cells #[.slice A n c, .int .i64 0] 80))) := by
  go_enter Tryz.func20, Tryz.ntmps20
  go_wp2
  go_ret
  exact RetW.mk rfl rfl
theorem Sr.made {w : World} {A : Option Addr} {c : Nat} {zl : List Int} (hr : RdI .i64 w w.heap.size (.slice A zl.length c) zl) (hw : ∀ z ∈ zl, (Lit.int .i64 z).wf = true) (e : TypeId) :
    Sr (w.alloc (.cells #[.slice A zl.length c, .int .i64 0] e)) w.heap.size (.slice A zl.length c) zl :=
  ⟨by simp, by rw [World.cell?_alloc_new]; rfl, ⟨0, by rw [World.cell?_alloc_new]; rfl, Nat.zero_le _⟩, by simp, hr.below ((Below.refl _ _).alloc (Nat.le_refl _) _), hw⟩
end Go.Proofs.YtbolbbngncnecaaGreat
