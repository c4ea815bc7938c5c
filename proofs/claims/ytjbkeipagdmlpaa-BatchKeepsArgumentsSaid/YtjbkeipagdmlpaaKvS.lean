/- keep's Source once more: what is written between the choices, told by blocks; for keep's value, called again and again. -/
import Derived.Test.YtjbkeipagdmlpaaVal
import Derived.Test.YtjbkeipagdmlpaaMemV
import Derived.Deep.RegionWith
import Derived.BigQuiet
namespace Go.KV
open Go.RowKit Go.VB
theorem get_mem_int {l : List Int} {i : Nat} (h : i < l.length) : l.getD i 0 ∈ l := by
  rw [List.getD_eq_getElem?_getD, List.getElem?_eq_getElem h]; exact List.getElem_mem h
/-- What was there is as it was, but for block g. -/
structure GB (g : Nat) (w w' : World) : Prop where
  os : w'.os = w.os
  tape : w'.tape = w.tape
  output : w'.output = w.output
  size : w.heap.size ≤ w'.heap.size
  block : ∀ k, k < w.heap.size → k ≠ g → w'.heap[k]? = w.heap[k]?
theorem GB.refl (g : Nat) (w : World) : GB g w w := ⟨rfl, rfl, rfl, Nat.le_refl _, fun _ _ _ => rfl⟩
theorem GB.drew {g : Nat} {a b : World} (h : GB g a b) : GB g a b.drew := ⟨h.os, h.tape, h.output, h.size, h.block⟩
theorem GB.of {g B : Nat} {a b c : World} (h : GB g a b) (hb : Below B b c) (hB : a.heap.size ≤ B) : GB g a c :=
  ⟨hb.os.trans h.os, hb.tape.trans h.tape, hb.output.trans h.output, Nat.le_trans h.size hb.size, fun k hk hg => (hb.block k (by omega)).trans (h.block k hk hg)⟩
theorem GB.alloc {g : Nat} {a b : World} (h : GB g a b) (o : Obj) : GB g a (b.alloc o) := h.of ((Below.refl b.heap.size b).alloc (Nat.le_refl _) o) h.size
theorem GB.set {g : Nat} {a b : World} (h : GB g a b) (i : Nat) (x : Value) : GB g a (b.setCell ⟨g, i, none⟩ x) :=
  ⟨h.os, h.tape, h.output, by rw [World.size_setCell]; exact h.size, fun k hk hg => (Below.heap_setCell _ _ _ _ hg).trans (h.block k hk hg)⟩
theorem GB.setO {g b : Nat} {a c : World} (h : GB g a c) (hb : a.heap.size ≤ b) (i : Nat) (x : Value) : GB g a (c.setCell ⟨b, i, none⟩ x) :=
  ⟨h.os, h.tape, h.output, by rw [World.size_setCell]; exact h.size, fun k hk hg => (Below.heap_setCell _ _ _ _ (show k ≠ b by omega)).trans (h.block k hk hg)⟩
theorem GB.below {g B : Nat} {a b w0 : World} (h : GB g a b) (h0 : Below B w0 a) (hB : B ≤ g) (ha : B ≤ a.heap.size) : Below B w0 b :=
  ⟨h.os.trans h0.os, h.tape.trans h0.tape, h.output.trans h0.output, Nat.le_trans h0.size h.size, fun k hk => (h.block k (by omega) (by omega)).trans (h0.block k hk)⟩
/-- The world w is w0 but for what is new and for the source; the source lies in block g and gives the numbers zl, which lie in the slice v. -/
structure Src (w0 w : World) (B g : Nat) (v : Value) (zl : List Int) : Prop where
  gb : GB g w0 w
  base : B ≤ g
  lt0 : g < w0.heap.size
  c0 : w.cell? ⟨g, 0, none⟩ = some v
  c1 : ∃ i : Nat, w.cell? ⟨g, 1, none⟩ = some (.int .i64 (i : Int)) ∧ i ≤ zl.length
  fr : w.frozen? ⟨g, 1, none⟩ = false
  rd : RdI .i64 w0 B v zl
  wf : ∀ z ∈ zl, (Lit.int .i64 z).wf = true
section
variable {w0 w : World} {B g : Nat} {v : Value} {zl : List Int}
theorem Src.below (h : Src w0 w B g v zl) : Below B w0 w := h.gb.below (Below.refl _ _) h.base (by have := h.base; have := h.lt0; omega)
theorem Src.lt (h : Src w0 w B g v zl) : g < w.heap.size := Nat.lt_of_lt_of_le h.lt0 h.gb.size
theorem Src.drew (h : Src w0 w B g v zl) : Src w0 w.drew B g v zl :=
  ⟨h.gb.drew, h.base, h.lt0, h.c0, h.c1, h.fr, h.rd, h.wf⟩
theorem Src.drewN (k : Nat) (h : Src w0 w B g v zl) : Src w0 (w.drewN k) B g v zl := by
  induction k generalizing w with
  | zero => exact h
  | succ k ih => exact (ih h).drew
theorem drewN_cell (w : World) (k : Nat) (a : Addr) : (w.drewN k).cell? a = w.cell? a := by
  induction k generalizing w with
  | zero => rfl
  | succ k ih => exact ih w
theorem Src.alloc (h : Src w0 w B g v zl) (_hB : B ≤ w.heap.size) (o : Obj) : Src w0 (w.alloc o) B g v zl :=
  ⟨h.gb.alloc o, h.base, h.lt0, (World.cell?_alloc_past o g 0 h.lt).trans h.c0,
    let ⟨i, e, hi⟩ := h.c1; ⟨i, (World.cell?_alloc_past o g 1 h.lt).trans e, hi⟩, (World.frozen?_alloc_past o g 1 h.lt).trans h.fr, h.rd, h.wf⟩
theorem Src.set (h : Src w0 w B g v zl) (i : Nat) (hi : i ≤ zl.length) : Src w0 (w.setCell ⟨g, 1, none⟩ (.int .i64 (i : Int))) B g v zl :=
  ⟨h.gb.set _ _, h.base, h.lt0, (World.cell?_setCell_other _ _ _ _ (by simp)).trans h.c0,
    let ⟨_, e, _⟩ := h.c1; ⟨i, World.cell?_setCell_same _ _ _ e, hi⟩, (World.frozen?_setCell _ _ _ _).trans h.fr, h.rd, h.wf⟩
theorem Src.setO {b : Nat} (h : Src w0 w B g v zl) (hb : w0.heap.size ≤ b) (i : Nat) (x : Value) : Src w0 (w.setCell ⟨b, i, none⟩ x) B g v zl :=
  have hne : ∀ j, (⟨b, i, none⟩ : Addr) ≠ ⟨g, j, none⟩ := fun j e => by have := congrArg Addr.block e; simp at this; have := h.lt0; omega
  ⟨h.gb.setO hb _ _, h.base, h.lt0, (World.cell?_setCell_other _ _ _ _ (hne _)).trans h.c0,
    let ⟨k, e, hi⟩ := h.c1; ⟨k, (World.cell?_setCell_other _ _ _ _ (hne _)).trans e, hi⟩, (World.frozen?_setCell _ _ _ _).trans h.fr, h.rd, h.wf⟩
theorem Src.size (h : Src w0 w B g v zl) : B ≤ w.heap.size := by have := h.base; have := h.lt; omega
/-- The source as it stands now. -/
theorem Src.again (h : Src w0 w B g v zl) : Src w w B g v zl := ⟨GB.refl _ _, h.base, h.lt, h.c0, h.c1, h.fr, h.rd.below h.below, h.wf⟩
theorem Src.of {B' : Nat} {w' : World} (h : Src w0 w B g v zl) (hb : Below B' w w') (hg : g < B') (hw : w0.heap.size ≤ B') : Src w0 w' B g v zl :=
  have f2 : w'.frozen? ⟨g, 1, none⟩ = w.frozen? ⟨g, 1, none⟩ := World.frozen?_of_block (hb.block g hg)
  ⟨h.gb.of hb hw, h.base, h.lt0, (hb.cell (p := ⟨g, 0, none⟩) hg).trans h.c0, let ⟨i, e, hi⟩ := h.c1; ⟨i, (hb.cell (p := ⟨g, 1, none⟩) hg).trans e, hi⟩, f2.trans h.fr, h.rd, h.wf⟩
end
theorem drewN_size (w : World) (n : Nat) : (w.drewN n).heap.size = w.heap.size := by
  induction n generalizing w with
  | zero => rfl
  | succ n ih => exact ih w.drew
/-- New blocks, one after another. -/
def grow (w : World) : List Obj → World
  | [] => w
  | o :: r => grow (w.alloc o) r
theorem grow_drewN (n : Nat) : ∀ (os : List Obj) (w : World), (grow w os).drewN n = grow (w.drewN n) os
  | [], _ => rfl
  | o :: r, w => grow_drewN n r (w.alloc o)
theorem grow_set {g i : Nat} {x : Value} : ∀ (os : List Obj) (w : World), g < w.heap.size → (grow w os).setCell ⟨g, i, none⟩ x = grow (w.setCell ⟨g, i, none⟩ x) os
  | [], _, _ => rfl
  | o :: r, w, h => by
    rw [show grow w (o :: r) = grow (w.alloc o) r from rfl, grow_set r (w.alloc o) (by simp; omega), World.setCell_alloc_past o g i x h]
    rfl
theorem grow_cell {g i : Nat} : ∀ (os : List Obj) (w : World), g < w.heap.size → (grow w os).cell? ⟨g, i, none⟩ = w.cell? ⟨g, i, none⟩
  | [], _, _ => rfl
  | o :: r, w, h => by
    rw [show grow w (o :: r) = grow (w.alloc o) r from rfl, grow_cell r (w.alloc o) (by simp; omega), World.cell?_alloc_past o g i h]
theorem grow_frozen {g i : Nat} : ∀ (os : List Obj) (w : World), g < w.heap.size → (grow w os).frozen? ⟨g, i, none⟩ = w.frozen? ⟨g, i, none⟩
  | [], _, _ => rfl
  | o :: r, w, h => by
    rw [show grow w (o :: r) = grow (w.alloc o) r from rfl, grow_frozen r (w.alloc o) (by simp; omega), World.frozen?_alloc_past o g i h]
theorem grow_below {B : Nat} {w0 : World} : ∀ (os : List Obj) (w : World), Below B w0 w → B ≤ w.heap.size → Below B w0 (grow w os)
  | [], _, h, _ => h
  | o :: r, w, h, hB => grow_below r (w.alloc o) (h.alloc hB o) (by simp; omega)
theorem grow_size : ∀ (os : List Obj) (w : World), (grow w os).heap.size = w.heap.size + os.length
  | [], _ => rfl
  | o :: r, w => by rw [show grow w (o :: r) = grow (w.alloc o) r from rfl, grow_size r]; simp; omega
theorem grow_snoc (o : Obj) : ∀ (os : List Obj) (w : World), (grow w os).alloc o = grow w (os ++ [o])
  | [], _ => rfl
  | _ :: r, _ => grow_snoc o r _
theorem Src.grow {w0 : World} {B g : Nat} {v : Value} {zl : List Int} : ∀ (os : List Obj) {w : World}, Src w0 w B g v zl → Src w0 (grow w os) B g v zl
  | [], _, h => h
  | o :: r, _, h => Src.grow r (h.alloc h.size o)
theorem Src.made {w : World} {A : Option Addr} {c : Nat} {zl : List Int} (hr : RdI .i64 w w.heap.size (.slice A zl.length c) zl) (hw : ∀ z ∈ zl, (Lit.int .i64 z).wf = true) (e : TypeId) :
    Src (w.alloc (.cells #[.slice A zl.length c, .int .i64 0] e)) (w.alloc (.cells #[.slice A zl.length c, .int .i64 0] e)) w.heap.size w.heap.size (.slice A zl.length c) zl :=
  ⟨GB.refl _ _, Nat.le_refl _, by simp, by rw [World.cell?_alloc_new]; rfl, ⟨0, by rw [World.cell?_alloc_new]; rfl, Nat.zero_le _⟩, by simp, hr.below ((Below.refl _ _).alloc (Nat.le_refl _) _), hw⟩
/-- A callee that returns v and leaves the world, within a quiet region. -/
theorem quiet6 {P : Program} {f : FuncId} {args : Array Value} {w : World} {n : Nat} {v : Value} (h : Calls P f args (w.drewN n) (Ret v (w.drewN n))) :
    Calls P f args (w.drewN n) fun e w'' => e = .returned v ∧ ∃ m, w'' = w.drewN m := h.mono fun _ _ ⟨he, hm⟩ => ⟨he, n, hm.symm⟩
/-- A choice: a number that meets p; the source has moved on, the blocks behind it stand. -/
def Chose (p : Int → Prop) (w0 wx : World) (os : List Obj) (B g : Nat) (v : Value) (zl : List Int) : Ending → World → Prop := fun e w' =>
  ∃ r wy, e = .returned (.int .i64 r) ∧ p r ∧ Src w0 wy B g v zl ∧ wx.heap.size = wy.heap.size ∧ w' = grow wy os
theorem Chose.stay {p : Int → Prop} {w0 wx : World} {os : List Obj} {B g : Nat} {v : Value} {zl : List Int} {r : Int} {x : Value} (hs : Src w0 wx B g v zl) (k : Nat) (hx : x = .int .i64 r) (hp : p r) :
    Chose p w0 wx os B g v zl (.returned x) ((grow wx os).drewN k) :=
  ⟨r, wx.drewN k, by rw [hx], hp, hs.drewN k, (drewN_size wx k).symm, grow_drewN k os wx⟩
theorem Chose.move {p : Int → Prop} {w0 wx : World} {os : List Obj} {B g : Nat} {v : Value} {zl : List Int} {r : Int} {x : Value} (hs : Src w0 wx B g v zl) (k m : Nat) (i : Nat) (hi : i ≤ zl.length) (hx : x = .int .i64 r) (hp : p r) :
    Chose p w0 wx os B g v zl (.returned x) ((((grow wx os).drewN m).setCell ⟨g, 1, none⟩ (.int .i64 (i : Int))).drewN k) := by
  refine ⟨r, ((wx.drewN m).setCell ⟨g, 1, none⟩ (.int .i64 (i : Int))).drewN k, by rw [hx], hp, ((hs.drewN m).set i hi).drewN k, ?_, ?_⟩
  · rw [drewN_size, World.size_setCell, drewN_size]
  · rw [grow_drewN, grow_set _ _ (by rw [drewN_size]; exact hs.lt), grow_drewN]
end Go.KV
namespace Go.Proofs.Ytjbkeipagdmlpaa
open Go.RowKit Go.VB Go.KV
set_option maxRecDepth 100000 in
set_option maxHeartbeats 2000000 in
theorem snext_any (w0 wx : World) (os : List Obj) (B g : Nat) (v : Value) (zl : List Int) (n : Int) (hs : Src w0 wx B g v zl) (hn : 1 ≤ n) (hn2 : n ≤ 4611686018427387904) :
    Calls Try.prog 39 #[.pointer (some ⟨g, 0, none⟩), .int .i64 n] (grow wx os) (Chose (fun r => 0 ≤ r ∧ r < n) w0 wx os B g v zl) := by
  obtain ⟨i, hi, hil⟩ := hs.c1
  have hc0 := (grow_cell os wx hs.lt).trans hs.c0
  have hc1 := (grow_cell os wx hs.lt).trans hi
  have hfr := (grow_frozen (i := 1) os wx hs.lt).trans hs.fr
  have hbel : Below B w0 (grow wx os) := grow_below os wx hs.below hs.size
  have hrd := hs.rd.below hbel
  have hlt : g < (grow wx os).heap.size := by rw [grow_size]; have := hs.lt; omega
  have hwf := hs.wf
  have HM := fun k x h => Chose.stay (p := fun r => 0 ≤ r ∧ r < n) (os := os) hs k (r := x) (x := .int .i64 x) rfl h
  have HV := fun k m x j hj h => Chose.move (p := fun r => 0 ≤ r ∧ r < n) (os := os) hs k m j hj (r := x) (x := .int .i64 x) rfl h
  have hb := hs.base
  clear hs hbel hi
  generalize grow wx os = w at *
  generalize hQ : Chose (fun r => 0 ≤ r ∧ r < n) w0 wx os B g v zl = Q at *
  clear hQ
  have HM' := Lib.hid HM; have HV' := Lib.hid HV; clear HM HV
  obtain ⟨A, c, rfl, hc, hm, hr⟩ := hrd
  unfold maxLen at hm
  by_cases he : i = zl.length
  · have hd : decide (zl.length ≤ i) = true := decide_eq_true (by omega)
    clear hr
    go_enter Try.func39, Try.ntmps39
    go_wp2_with fail
    go_quiet (fail)
    go_wp2
    exact HM'.out _ 0 ⟨by omega, by omega⟩
  · have hlt2 : i < zl.length := by omega
    have hd : decide (zl.length ≤ i) = false := decide_eq_false (by omega)
    obtain ⟨ad, hA, hab, hac⟩ := hr i hlt2
    subst hA
    have hz := hwf _ (get_mem_int hlt2)
    generalize zl.getD i 0 = z at *
    clear hr hwf he
    have HP := fun w => Lib.hid (pick_at z n w hz hn hn2)
    have hp := pickN_bd z (n := n) (by omega)
    generalize pickN z n = p at *
    clear hz
    go_enter Try.func39, Try.ntmps39
    go_wp2_with fail
    go_quiet (fail)
    have k0 : ((w.drewN nq).setCell ⟨g, 1, none⟩ (.int .i64 ((i : Int) + 1))).cell? ⟨g, 0, none⟩ = some (.slice (some ad) zl.length c) :=
      (World.cell?_setCell_other _ _ _ _ (by simp)).trans ((drewN_cell w nq _).trans hc0)
    have k1 : ((w.drewN nq).setCell ⟨g, 1, none⟩ (.int .i64 ((i : Int) + 1))).cell? ⟨g, 1, none⟩ = some (.int .i64 ((i : Int) + 1)) :=
      World.cell?_setCell_same _ _ _ ((drewN_cell w nq _).trans hc1)
    have k2 : ((w.drewN nq).setCell ⟨g, 1, none⟩ (.int .i64 ((i : Int) + 1))).cell? (ad.add i) = some (.int .i64 z) :=
      (World.cell?_setCell_other _ _ _ _ (fun e => by have h := congrArg Addr.block e; rw [block_add] at h; simp at h; omega)).trans ((drewN_cell w nq _).trans hac)
    have HE := fun k => HV'.out k nq p (i + 1) (by omega) hp
    push_cast at HE
    go_wp2_with fail
    clear HV' HM' hc0 hc1 hac hfr
    generalize (w.drewN nq).setCell ⟨g, 1, none⟩ (.int .i64 ((i : Int) + 1)) = w1 at *
    go_quiet (first | (go_at_call 15; refine quiet6 (HP _).out))
    go_wp2
    exact HE _
set_option maxRecDepth 100000 in
set_option maxHeartbeats 2000000 in
theorem sraw_any (w0 wx : World) (os : List Obj) (B g : Nat) (v : Value) (zl : List Int) (hs : Src w0 wx B g v zl) :
    Calls Try.prog 66 #[.pointer (some ⟨g, 0, none⟩)] (grow wx os) (Chose (fun r => (Lit.int .i64 r).wf = true) w0 wx os B g v zl) := by
  obtain ⟨i, hi, hil⟩ := hs.c1
  have hc0 := (grow_cell os wx hs.lt).trans hs.c0
  have hc1 := (grow_cell os wx hs.lt).trans hi
  have hfr := (grow_frozen (i := 1) os wx hs.lt).trans hs.fr
  have hbel : Below B w0 (grow wx os) := grow_below os wx hs.below hs.size
  have hrd := hs.rd.below hbel
  have hlt : g < (grow wx os).heap.size := by rw [grow_size]; have := hs.lt; omega
  have hwf := hs.wf
  have HM := fun k x h => Chose.stay (p := fun r => (Lit.int .i64 r).wf = true) (os := os) hs k (r := x) (x := .int .i64 x) rfl h
  have HV := fun k m x j hj h => Chose.move (p := fun r => (Lit.int .i64 r).wf = true) (os := os) hs k m j hj (r := x) (x := .int .i64 x) rfl h
  have hb := hs.base
  clear hs hbel hi
  generalize grow wx os = w at *
  generalize hQ : Chose (fun r => (Lit.int .i64 r).wf = true) w0 wx os B g v zl = Q at *
  clear hQ
  have HM' := Lib.hid HM; have HV' := Lib.hid HV; clear HM HV
  obtain ⟨A, c, rfl, hc, hm, hr⟩ := hrd
  unfold maxLen at hm
  by_cases he : i = zl.length
  · have hd : decide (zl.length ≤ i) = true := decide_eq_true (by omega)
    clear hr
    go_enter Try.func66, Try.ntmps66
    go_wp2_with fail
    go_quiet (fail)
    go_wp2
    exact HM'.out _ 0 (by decide)
  · have hlt2 : i < zl.length := by omega
    have hd : decide (zl.length ≤ i) = false := decide_eq_false (by omega)
    obtain ⟨ad, hA, hab, hac⟩ := hr i hlt2
    subst hA
    have hz := hwf _ (get_mem_int hlt2)
    generalize zl.getD i 0 = z at *
    clear hr hwf he
    have hp := hz
    clear hz
    go_enter Try.func66, Try.ntmps66
    go_wp2_with fail
    go_quiet (fail)
    have k0 : ((w.drewN nq).setCell ⟨g, 1, none⟩ (.int .i64 ((i : Int) + 1))).cell? ⟨g, 0, none⟩ = some (.slice (some ad) zl.length c) :=
      (World.cell?_setCell_other _ _ _ _ (by simp)).trans ((drewN_cell w nq _).trans hc0)
    have k1 : ((w.drewN nq).setCell ⟨g, 1, none⟩ (.int .i64 ((i : Int) + 1))).cell? ⟨g, 1, none⟩ = some (.int .i64 ((i : Int) + 1)) :=
      World.cell?_setCell_same _ _ _ ((drewN_cell w nq _).trans hc1)
    have k2 : ((w.drewN nq).setCell ⟨g, 1, none⟩ (.int .i64 ((i : Int) + 1))).cell? (ad.add i) = some (.int .i64 z) :=
      (World.cell?_setCell_other _ _ _ _ (fun e => by have h := congrArg Addr.block e; rw [block_add] at h; simp at h; omega)).trans ((drewN_cell w nq _).trans hac)
    have HE := fun k => HV'.out k nq z (i + 1) (by omega) hp
    push_cast at HE
    go_wp2_with fail
    clear HV' HM' hc0 hc1 hac hfr
    generalize (w.drewN nq).setCell ⟨g, 1, none⟩ (.int .i64 ((i : Int) + 1)) = w1 at *
    go_quiet (fail)
    go_wp2
    exact HE _
end Go.Proofs.Ytjbkeipagdmlpaa
