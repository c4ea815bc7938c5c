/- The walks over a source of choices. -/
import Derived.Test.YtjbkeipagdmlpaaValW5
namespace Go.VL
open Go.RowKit Go.VB
theorem get_mem_int {l : List Int} {i : Nat} (h : i < l.length) : l.getD i 0 ∈ l := by
  rw [List.getD_eq_getElem?_getD, List.getElem?_eq_getElem h]; exact List.getElem_mem h
/-- The world w is w0 but for what is at or above block B; the source lies in block g and gives the numbers zl, which lie in the slice v. -/
structure Src (w0 w : World) (B g : Nat) (v : Value) (zl : List Int) : Prop where
  below : Below B w0 w
  base : B ≤ g
  lt : g < w.heap.size
  c0 : w.cell? ⟨g, 0, none⟩ = some v
  c1 : ∃ i : Nat, w.cell? ⟨g, 1, none⟩ = some (.int .i64 (i : Int)) ∧ i ≤ zl.length
  fr : w.frozen? ⟨g, 1, none⟩ = false
  rd : RdI .i64 w0 B v zl
  wf : ∀ z ∈ zl, (Lit.int .i64 z).wf = true
theorem Src.drew {w0 w : World} {B g : Nat} {v : Value} {zl : List Int} (h : Src w0 w B g v zl) : Src w0 w.drew B g v zl :=
  ⟨h.below.drew, h.base, h.lt, h.c0, h.c1, h.fr, h.rd, h.wf⟩
theorem Src.drewN {w0 w : World} {B g : Nat} {v : Value} {zl : List Int} (k : Nat) (h : Src w0 w B g v zl) : Src w0 (w.drewN k) B g v zl := by
  induction k generalizing w with
  | zero => exact h
  | succ k ih => exact (ih h).drew
theorem drewN_cell (w : World) (k : Nat) (a : Addr) : (w.drewN k).cell? a = w.cell? a := by
  induction k generalizing w with
  | zero => rfl
  | succ k ih => exact ih w
theorem Src.alloc {w0 w : World} {B g : Nat} {v : Value} {zl : List Int} (h : Src w0 w B g v zl) (hB : B ≤ w.heap.size) (o : Obj) : Src w0 (w.alloc o) B g v zl :=
  ⟨h.below.alloc hB o, h.base, by have := h.lt; simp; omega, (World.cell?_alloc_past o g 0 h.lt).trans h.c0,
    let ⟨i, e, hi⟩ := h.c1; ⟨i, (World.cell?_alloc_past o g 1 h.lt).trans e, hi⟩, (World.frozen?_alloc_past o g 1 h.lt).trans h.fr, h.rd, h.wf⟩
theorem Src.set {w0 w : World} {B g : Nat} {v : Value} {zl : List Int} (h : Src w0 w B g v zl) (i : Nat) (hi : i ≤ zl.length) : Src w0 (w.setCell ⟨g, 1, none⟩ (.int .i64 (i : Int))) B g v zl :=
  ⟨h.below.setCell h.base _, h.base, by rw [World.size_setCell]; exact h.lt, (World.cell?_setCell_other _ _ _ _ (by simp)).trans h.c0,
    let ⟨_, e, _⟩ := h.c1; ⟨i, World.cell?_setCell_same _ _ _ e, hi⟩, (World.frozen?_setCell _ _ _ _).trans h.fr, h.rd, h.wf⟩
theorem Src.size {w0 w : World} {B g : Nat} {v : Value} {zl : List Int} (h : Src w0 w B g v zl) : B ≤ w.heap.size := by have := h.base; have := h.lt; omega
theorem drewN_size (w : World) (n : Nat) : (w.drewN n).heap.size = w.heap.size := by
  induction n generalizing w with
  | zero => rfl
  | succ n ih => exact ih w.drew
/-- New blocks, one after another. -/
def grow (w : World) : List Obj → World
  | [] => w
  | o :: r => grow (w.alloc o) r
theorem grow_drewN (n : Nat) : ∀ (os : List Obj) (w : World), (grow w os).drewN n = grow (w.drewN n) os
  | [], _ => rfl
  | o :: r, w => grow_drewN n r (w.alloc o)
theorem grow_set {g i : Nat} {x : Value} : ∀ (os : List Obj) (w : World), g < w.heap.size → (grow w os).setCell ⟨g, i, none⟩ x = grow (w.setCell ⟨g, i, none⟩ x) os
  | [], _, _ => rfl
  | o :: r, w, h => by
    rw [show grow w (o :: r) = grow (w.alloc o) r from rfl, grow_set r (w.alloc o) (by simp; omega), World.setCell_alloc_past o g i x h]
    rfl
theorem grow_cell {g i : Nat} : ∀ (os : List Obj) (w : World), g < w.heap.size → (grow w os).cell? ⟨g, i, none⟩ = w.cell? ⟨g, i, none⟩
  | [], _, _ => rfl
  | o :: r, w, h => by
    rw [show grow w (o :: r) = grow (w.alloc o) r from rfl, grow_cell r (w.alloc o) (by simp; omega), World.cell?_alloc_past o g i h]
theorem grow_frozen {g i : Nat} : ∀ (os : List Obj) (w : World), g < w.heap.size → (grow w os).frozen? ⟨g, i, none⟩ = w.frozen? ⟨g, i, none⟩
  | [], _, _ => rfl
  | o :: r, w, h => by
    rw [show grow w (o :: r) = grow (w.alloc o) r from rfl, grow_frozen r (w.alloc o) (by simp; omega), World.frozen?_alloc_past o g i h]
theorem grow_below {B : Nat} {w0 : World} : ∀ (os : List Obj) (w : World), Below B w0 w → B ≤ w.heap.size → Below B w0 (grow w os)
  | [], _, h, _ => h
  | o :: r, w, h, hB => grow_below r (w.alloc o) (h.alloc hB o) (by simp; omega)
theorem grow_size : ∀ (os : List Obj) (w : World), (grow w os).heap.size = w.heap.size + os.length
  | [], _ => rfl
  | o :: r, w => by rw [show grow w (o :: r) = grow (w.alloc o) r from rfl, grow_size r]; simp; omega
theorem grow_snoc (o : Obj) : ∀ (os : List Obj) (w : World), (grow w os).alloc o = grow w (os ++ [o])
  | [], _ => rfl
  | _ :: r, _ => grow_snoc o r _
/-- A callee that returns v and leaves the world, within a quiet region. -/
theorem quiet6 {P : Program} {f : FuncId} {args : Array Value} {w : World} {n : Nat} {v : Value} (h : Calls P f args (w.drewN n) (Ret v (w.drewN n))) :
    Calls P f args (w.drewN n) fun e w'' => e = .returned v ∧ ∃ m, w'' = w.drewN m := h.mono fun _ _ ⟨he, hm⟩ => ⟨he, n, hm.symm⟩
/-- A choice: a number that meets p; the source has moved on, the blocks behind it stand. -/
def Chose (p : Int → Prop) (w0 wx : World) (os : List Obj) (B g : Nat) (v : Value) (zl : List Int) : Ending → World → Prop := fun e w' =>
  ∃ r wy, e = .returned (.int .i64 r) ∧ p r ∧ Src w0 wy B g v zl ∧ wx.heap.size = wy.heap.size ∧ w' = grow wy os
theorem Chose.stay {p : Int → Prop} {w0 wx : World} {os : List Obj} {B g : Nat} {v : Value} {zl : List Int} {r : Int} {x : Value} (hs : Src w0 wx B g v zl) (k : Nat) (hx : x = .int .i64 r) (hp : p r) :
    Chose p w0 wx os B g v zl (.returned x) ((grow wx os).drewN k) :=
  ⟨r, wx.drewN k, by rw [hx], hp, hs.drewN k, (drewN_size wx k).symm, grow_drewN k os wx⟩
theorem Chose.move {p : Int → Prop} {w0 wx : World} {os : List Obj} {B g : Nat} {v : Value} {zl : List Int} {r : Int} {x : Value} (hs : Src w0 wx B g v zl) (k m : Nat) (i : Nat) (hi : i ≤ zl.length) (hx : x = .int .i64 r) (hp : p r) :
    Chose p w0 wx os B g v zl (.returned x) ((((grow wx os).drewN m).setCell ⟨g, 1, none⟩ (.int .i64 (i : Int))).drewN k) := by
  refine ⟨r, ((wx.drewN m).setCell ⟨g, 1, none⟩ (.int .i64 (i : Int))).drewN k, by rw [hx], hp, ((hs.drewN m).set i hi).drewN k, ?_, ?_⟩
  · rw [drewN_size, World.size_setCell, drewN_size]
  · rw [grow_drewN, grow_set _ _ (by rw [drewN_size]; exact hs.lt), grow_drewN]
end Go.VL
namespace Go.Proofs.Ytjbkeipagdmlpaa
open Go.RowKit Go.VB Go.VL
set_option maxRecDepth 100000 in
set_option maxHeartbeats 2000000 in
theorem next_any (w0 wx : World) (os : List Obj) (B g : Nat) (v : Value) (zl : List Int) (n : Int) (hs : Src w0 wx B g v zl) (hn : 1 ≤ n) (hn2 : n ≤ 4611686018427387904) :
    Calls Try.prog 39 #[.pointer (some ⟨g, 0, none⟩), .int .i64 n] (grow wx os) (Chose (fun r => 0 ≤ r ∧ r < n) w0 wx os B g v zl) := by
  obtain ⟨i, hi, hil⟩ := hs.c1
  have hc0 := (grow_cell os wx hs.lt).trans hs.c0
  have hc1 := (grow_cell os wx hs.lt).trans hi
  have hfr := (grow_frozen (i := 1) os wx hs.lt).trans hs.fr
  have hbel : Below B w0 (grow wx os) := grow_below os wx hs.below hs.size
  have hrd := hs.rd.below hbel
  have hlt : g < (grow wx os).heap.size := by rw [grow_size]; have := hs.lt; omega
  have hwf := hs.wf
  have HM := fun k x h => Chose.stay (p := fun r => 0 ≤ r ∧ r < n) (os := os) hs k (r := x) (x := .int .i64 x) rfl h
  have HV := fun k m x j hj h => Chose.move (p := fun r => 0 ≤ r ∧ r < n) (os := os) hs k m j hj (r := x) (x := .int .i64 x) rfl h
  have hb := hs.base
  clear hs hbel hi
  generalize grow wx os = w at *
  generalize hQ : Chose (fun r => 0 ≤ r ∧ r < n) w0 wx os B g v zl = Q at *
  clear hQ
  have HM' := Lib.hid HM; have HV' := Lib.hid HV; clear HM HV
  obtain ⟨A, c, rfl, hc, hm, hr⟩ := hrd
  unfold maxLen at hm
  by_cases he : i = zl.length
  · have hd : decide (zl.length ≤ i) = true := decide_eq_true (by omega)
    clear hr
    go_enter Try.func39, Try.ntmps39
    go_wp2_with fail
    go_quiet (fail)
    go_wp2
    exact HM'.out _ 0 ⟨by omega, by omega⟩
  · have hlt2 : i < zl.length := by omega
    have hd : decide (zl.length ≤ i) = false := decide_eq_false (by omega)
    obtain ⟨ad, hA, hab, hac⟩ := hr i hlt2
    subst hA
    have hz := hwf _ (get_mem_int hlt2)
    generalize zl.getD i 0 = z at *
    clear hr hwf he
    have HP := fun w => Lib.hid (pick_at z n w hz hn hn2)
    have hp := pickN_bd z (n := n) (by omega)
    generalize pickN z n = p at *
    clear hz
    go_enter Try.func39, Try.ntmps39
    go_wp2_with fail
    go_quiet (fail)
    have k0 : ((w.drewN nq).setCell ⟨g, 1, none⟩ (.int .i64 ((i : Int) + 1))).cell? ⟨g, 0, none⟩ = some (.slice (some ad) zl.length c) :=
      (World.cell?_setCell_other _ _ _ _ (by simp)).trans ((drewN_cell w nq _).trans hc0)
    have k1 : ((w.drewN nq).setCell ⟨g, 1, none⟩ (.int .i64 ((i : Int) + 1))).cell? ⟨g, 1, none⟩ = some (.int .i64 ((i : Int) + 1)) :=
      World.cell?_setCell_same _ _ _ ((drewN_cell w nq _).trans hc1)
    have k2 : ((w.drewN nq).setCell ⟨g, 1, none⟩ (.int .i64 ((i : Int) + 1))).cell? (ad.add i) = some (.int .i64 z) :=
      (World.cell?_setCell_other _ _ _ _ (fun e => by have h := congrArg Addr.block e; rw [block_add] at h; simp at h; omega)).trans ((drewN_cell w nq _).trans hac)
    have HE := fun k => HV'.out k nq p (i + 1) (by omega) hp
    push_cast at HE
    go_wp2_with fail
    clear HV' HM' hc0 hc1 hac hfr
    generalize (w.drewN nq).setCell ⟨g, 1, none⟩ (.int .i64 ((i : Int) + 1)) = w1 at *
    go_quiet (first | (go_at_call 15; refine quiet6 (HP _).out))
    go_wp2
    exact HE _
set_option maxRecDepth 100000 in
set_option maxHeartbeats 2000000 in
theorem raw_any (w0 wx : World) (os : List Obj) (B g : Nat) (v : Value) (zl : List Int) (hs : Src w0 wx B g v zl) :
    Calls Try.prog 66 #[.pointer (some ⟨g, 0, none⟩)] (grow wx os) (Chose (fun r => (Lit.int .i64 r).wf = true) w0 wx os B g v zl) := by
  obtain ⟨i, hi, hil⟩ := hs.c1
  have hc0 := (grow_cell os wx hs.lt).trans hs.c0
  have hc1 := (grow_cell os wx hs.lt).trans hi
  have hfr := (grow_frozen (i := 1) os wx hs.lt).trans hs.fr
  have hbel : Below B w0 (grow wx os) := grow_below os wx hs.below hs.size
  have hrd := hs.rd.below hbel
  have hlt : g < (grow wx os).heap.size := by rw [grow_size]; have := hs.lt; omega
  have hwf := hs.wf
  have HM := fun k x h => Chose.stay (p := fun r => (Lit.int .i64 r).wf = true) (os := os) hs k (r := x) (x := .int .i64 x) rfl h
  have HV := fun k m x j hj h => Chose.move (p := fun r => (Lit.int .i64 r).wf = true) (os := os) hs k m j hj (r := x) (x := .int .i64 x) rfl h
  have hb := hs.base
  clear hs hbel hi
  generalize grow wx os = w at *
  generalize hQ : Chose (fun r => (Lit.int .i64 r).wf = true) w0 wx os B g v zl = Q at *
  clear hQ
  have HM' := Lib.hid HM; have HV' := Lib.hid HV; clear HM HV
  obtain ⟨A, c, rfl, hc, hm, hr⟩ := hrd
  unfold maxLen at hm
  by_cases he : i = zl.length
  · have hd : decide (zl.length ≤ i) = true := decide_eq_true (by omega)
    clear hr
    go_enter Try.func66, Try.ntmps66
    go_wp2_with fail
    go_quiet (fail)
    go_wp2
    exact HM'.out _ 0 (by decide)
  · have hlt2 : i < zl.length := by omega
    have hd : decide (zl.length ≤ i) = false := decide_eq_false (by omega)
    obtain ⟨ad, hA, hab, hac⟩ := hr i hlt2
    subst hA
    have hz := hwf _ (get_mem_int hlt2)
    generalize zl.getD i 0 = z at *
    clear hr hwf he
    have hp := hz
    clear hz
    go_enter Try.func66, Try.ntmps66
    go_wp2_with fail
    go_quiet (fail)
    have k0 : ((w.drewN nq).setCell ⟨g, 1, none⟩ (.int .i64 ((i : Int) + 1))).cell? ⟨g, 0, none⟩ = some (.slice (some ad) zl.length c) :=
      (World.cell?_setCell_other _ _ _ _ (by simp)).trans ((drewN_cell w nq _).trans hc0)
    have k1 : ((w.drewN nq).setCell ⟨g, 1, none⟩ (.int .i64 ((i : Int) + 1))).cell? ⟨g, 1, none⟩ = some (.int .i64 ((i : Int) + 1)) :=
      World.cell?_setCell_same _ _ _ ((drewN_cell w nq _).trans hc1)
    have k2 : ((w.drewN nq).setCell ⟨g, 1, none⟩ (.int .i64 ((i : Int) + 1))).cell? (ad.add i) = some (.int .i64 z) :=
      (World.cell?_setCell_other _ _ _ _ (fun e => by have h := congrArg Addr.block e; rw [block_add] at h; simp at h; omega)).trans ((drewN_cell w nq _).trans hac)
    have HE := fun k => HV'.out k nq z (i + 1) (by omega) hp
    push_cast at HE
    go_wp2_with fail
    clear HV' HM' hc0 hc1 hac hfr
    generalize (w.drewN nq).setCell ⟨g, 1, none⟩ (.int .i64 ((i : Int) + 1)) = w1 at *
    go_quiet (fail)
    go_wp2
    exact HE _
end Go.Proofs.Ytjbkeipagdmlpaa
