/- The walks over Check, of package schema and of the reference. -/
import Derived.Test.YtjbkeipagdmlpaaSchW2
namespace Go.SC
open Go.RowKit Go.VB Go.VL
/-- The word of a type; none for what is no type. -/
def tword (ty : Int) : ByteArray :=
  if ty = 1 then ⟨#[105, 110, 116]⟩ else if ty = 2 then ⟨#[98, 111, 111, 108]⟩ else if ty = 3 then ⟨#[98, 121, 116, 101, 115]⟩ else if ty = 4 then ⟨#[100, 97, 116, 101]⟩
  else if ty = 5 then ⟨#[100, 101, 99, 105, 109, 97, 108]⟩ else ⟨#[]⟩
theorem tword_out {ty : Int} (h : okT ty = false) : tword ty = ⟨#[]⟩ := by
  have := of_decide_eq_false h
  unfold tword
  rw [if_neg (by omega), if_neg (by omega), if_neg (by omega), if_neg (by omega), if_neg (by omega)]
theorem okT_five {ty : Int} (h : okT ty = true) : ty = 1 ∨ ty = 2 ∨ ty = 3 ∨ ty = 4 ∨ ty = 5 := by
  have := of_decide_eq_true h; omega
theorem tword_in {ty : Int} (h : okT ty = true) : (tword ty).toList.isEmpty = false := by
  rcases okT_five h with rfl | rfl | rfl | rfl | rfl <;> (rw [ByteArray.toList_eq]; rfl)
def gsc (ty : Int) : Int := if ty = 5 then 18 else 0
/-- The fields of a column that is known by its index. -/
theorem fnd_dup {cs : List Col} {i : Nat} (hi : i < cs.length) : fnd cs (cs.getD i col0).nm < i ↔ ∃ j, j < i ∧ (cs.getD j col0).nm = (cs.getD i col0).nm := by
  have h1 := fnd_lt (nm := (cs.getD i col0).nm) (cs := cs) (i := i) (by omega)
  have h2 := fnd_lt (nm := (cs.getD i col0).nm) (cs := cs) (i := i + 1) (by omega)
  have h3 := h2.2 ⟨i, by omega, rfl⟩
  constructor
  · intro h; exact h1.1 ⟨h3.1, h⟩
  · intro h; exact (h1.2 h).2
/-- A variable of two cells in block b. -/
structure Var2 (w : World) (b : Nat) (x y : Value) : Prop where
  c0 : w.cell? ⟨b, 0, none⟩ = some x
  c1 : w.cell? ⟨b, 1, none⟩ = some y
  f0 : w.frozen? ⟨b, 0, none⟩ = false
  f1 : w.frozen? ⟨b, 1, none⟩ = false
theorem Var2.new (w : World) (x y : Value) (T : TypeId) : Var2 (w.alloc (.cells #[x, y] T)) w.heap.size x y := by
  constructor <;> simp
theorem Var2.lt {w : World} {b : Nat} {x y : Value} (h : Var2 w b x y) : b < w.heap.size := World.block_lt_of_cell? w _ h.c0
theorem Var2.below {w w' : World} {b B : Nat} {x y : Value} (h : Var2 w b x y) (hb : Below B w w') (hB : b < B) : Var2 w' b x y := by
  constructor
  · rw [hb.cell hB]; exact h.c0
  · rw [hb.cell hB]; exact h.c1
  · rw [hb.frozen hB]; exact h.f0
  · rw [hb.frozen hB]; exact h.f1
/-- A callee that returns v and leaves the world, within a quiet region. -/
theorem quiet7 {P : Program} {f : FuncId} {args : Array Value} {w : World} {n : Nat} {v : Value} (h : Calls P f args (w.drewN n) (Ret v (w.drewN n))) :
    Calls P f args (w.drewN n) fun e w'' => e = .returned v ∧ ∃ m, w'' = w.drewN m := h.mono fun _ _ ⟨he, hm⟩ => ⟨he, n, hm.symm⟩
theorem Var2.step {w w' : World} {b : Nat} {x y : Value} (h : Var2 w b x y) (hb : Below w.heap.size w w') : Var2 w' b x y := h.below hb h.lt
end Go.SC
namespace Go.Proofs.Ytjbkeipagdmlpaa
open Go.RowKit Go.VB Go.VL Go.SC
set_option linter.constructorNameAsVariable false
set_option maxRecDepth 100000 in
set_option maxHeartbeats 1000000 in
theorem wordOf_any (ty : Int) (w : World) : Calls Try.prog 69 #[.int .i64 ty] w (Ret (.string (tword ty)) w) := by
  cases h : okT ty with
  | true =>
    rcases okT_five h with rfl | rfl | rfl | rfl | rfl
    all_goals
      go_enter Try.func69, Try.ntmps69
      go_wp2
      go_ret
      exact Ret.mk rfl
  | false =>
    rw [tword_out h]
    have h' := of_decide_eq_false h
    have e1 : (ty == 1) = false := ieq_f (by omega)
    have e2 : (ty == 2) = false := ieq_f (by omega)
    have e3 : (ty == 3) = false := ieq_f (by omega)
    have e4 : (ty == 4) = false := ieq_f (by omega)
    have e5 : (ty == 5) = false := ieq_f (by omega)
    clear h h'
    go_enter Try.func69, Try.ntmps69
    go_wp2
    go_ret
    exact Ret.mk rfl
set_option maxRecDepth 100000 in
set_option maxHeartbeats 1000000 in
theorem greatest_any (ty : Int) (w : World) : Calls Try.prog 70 #[.int .i64 ty] w (Ret (.int .i64 (gsc ty)) w) := by
  unfold gsc
  by_cases h : ty = 5
  · subst h
    go_enter Try.func70, Try.ntmps70
    go_wp2
    go_ret
    exact Ret.mk rfl
  · rw [if_neg h]
    have e5 := ieq_f h
    go_enter Try.func70, Try.ntmps70
    go_wp2
    go_ret
    exact Ret.mk rfl
set_option maxRecDepth 100000 in
set_option maxHeartbeats 4000000 in
theorem checkCol_any (cs : List Col) (v : Value) (key : Int) (i : Nat) (W : World) (hr : RdC W W.heap.size v cs) (hi : i < cs.length) :
    Calls Try.prog 57 #[.agg #[v, .int .i64 key], .int .i64 (i : Int)] W (RetB (.int .i64 (chkCol cs i : Nat)) W) := by
  have HF := fun nm (w : World) (hb : Below W.heap.size W w) => Lib.hid (find_any cs v key nm w (hr.step hb))
  have HN := fun s w => Lib.hid (name_any s w)
  have HW := fun t w => Lib.hid (wordOf_any t w)
  have HG := fun t w => Lib.hid (greatest_any t w)
  have hdup := fnd_dup hi
  have C1 := fun h => Lib.hid (chkCol_name (cs := cs) (i := i) h)
  have C2 := fun h h2 => Lib.hid (chkCol_dup (cs := cs) (i := i) h h2)
  have C3 := fun h h2 h3 => Lib.hid (chkCol_type (cs := cs) (i := i) h h2 h3)
  have C4 := fun h h2 h3 => Lib.hid (chkCol_scale (cs := cs) (i := i) h h2 h3)
  obtain ⟨A, c, rfl, hc, hm, hrr⟩ := hr
  obtain ⟨ad, rfl, hab, hat⟩ := hrr i hi
  clear hrr
  unfold maxLen at hm
  generalize cs.getD i col0 = C at *
  obtain ⟨cn, ct, csc, cnu⟩ := C
  have hB1 : Below W.heap.size W (W.alloc (.cells #[.slice (some ad) cs.length c, .int .i64 key] 28)) := (Below.refl _ _).alloc (Nat.le_refl _) _
  obtain ⟨q0, q1, q2, q3⟩ := hat.below hB1 hab
  have hV2 := Var2.new W (.slice (some ad) cs.length c) (.int .i64 key) 28
  have hV4 := Var4.new (W.alloc (.cells #[.slice (some ad) cs.length c, .int .i64 key] 28)) (.string cn) (.int .i64 ct) (.int .i64 csc) (.bool cnu) 66
  replace hV2 := hV2.step ((Below.refl _ _).alloc (Nat.le_refl _) (.cells #[.string cn, .int .i64 ct, .int .i64 csc, .bool cnu] 66))
  rw [show (W.alloc (.cells #[.slice (some ad) cs.length c, .int .i64 key] 28)).heap.size = W.heap.size + 1 from by simp] at hV4
  have hB : Below W.heap.size W ((W.alloc (.cells #[.slice (some ad) cs.length c, .int .i64 key] 28)).alloc (.cells #[.string cn, .int .i64 ct, .int .i64 csc, .bool cnu] 66)) := hB1.alloc hB1.size _
  have HNc := fun w => Lib.hid (HN cn w).out
  clear hB1 hat hab HN
  obtain ⟨k0, k1, k2, k3⟩ := hV4
  obtain ⟨l0, l1, _, _⟩ := hV2
  go_enter Try.func57, Try.ntmps57
  go_wp2_with fail
  clear q0 q1 q2 q3
  generalize hX : (W.alloc (.cells #[.slice (some ad) cs.length c, .int .i64 key] 28)).alloc (.cells #[.string cn, .int .i64 ct, .int .i64 csc, .bool cnu] 66) = X at *
  refine (HNc _).out.mono ?_
  rintro e w1 ⟨rfl, rfl⟩
  clear hX HNc
  cases hn : nameS cn with
  | false =>
    have HE := C1 hn
    clear C1 C2 C3 C4 hn HF HW HG hdup
    go_wp2_with fail
    go_ret
    exact RetB.mk (by rw [HE.out]; rfl) hB
  | true =>
  replace C2 := C2 hn
  replace C3 := C3 hn
  replace C4 := C4 hn
  clear C1 hn
  have HFc := Lib.hid (HF cn X hB).out
  have hV := fun (w : World) (hb : Below X.heap.size X w) => Lib.hid (And.intro (bel_trans hB hb) (And.intro (Var4.step (w' := w) ⟨k0, k1, k2, k3⟩ hb) (Nat.zero_le 0)))
  clear HF
  go_wp2_with fail
  refine HFc.out.mono ?_
  rintro e w2 ⟨rfl, hb⟩
  clear k0 k1 k2 k3 l0 l1 HFc hB
  obtain ⟨hB, ⟨k0, k1, k2, k3⟩, _⟩ := (hV w2 hb).out
  clear hV hb
  by_cases hd : fnd cs cn < (i : Int)
  · have HE := C2 (hdup.1 hd)
    have hd' : decide (fnd cs cn < (i : Int)) = true := decide_eq_true hd
    clear C2 C3 C4 HW HG hdup hd
    generalize fnd cs cn = F at *
    go_wp2_with fail
    go_ret
    exact RetB.mk (by rw [HE.out]; rfl) hB
  have hd' : decide (fnd cs cn < (i : Int)) = false := decide_eq_false hd
  replace C3 := C3 (fun h => hd (hdup.2 h))
  replace C4 := C4 (fun h => hd (hdup.2 h))
  clear C2 hdup hd
  generalize fnd cs cn = F at *
  have HWc := fun w => Lib.hid (HW ct w).out
  have HGc := fun w => Lib.hid (HG ct w).out
  clear HW HG
  cases ht : okT ct with
  | false =>
    have HE := C3 ht
    rw [tword_out ht] at HWc
    clear C3 C4 ht HGc
    go_wp2_with (go_at_call 69; refine (HWc _).out.mono ?_; rintro e w' ⟨rfl, rfl⟩)
    go_ret
    exact RetB.mk (by rw [HE.out]; rfl) hB
  | true =>
  have HE := C4 ht
  have hte := tword_in ht
  clear C3 C4
  generalize tword ct = TW at *
  by_cases hs : csc < 0
  · have hs' : decide (csc < 0) = true := decide_eq_true hs
    rw [if_pos (.inl hs)] at HE
    clear ht hs HGc
    go_wp2_with (go_at_call 69; refine (HWc _).out.mono ?_; rintro e w' ⟨rfl, rfl⟩)
    go_quiet (fail)
    go_wp2_with fail
    go_ret
    exact RetB.mk (by rw [HE.out]; rfl) (below_drewN hB _)
  have hs' : decide (csc < 0) = false := decide_eq_false hs
  by_cases hg : gsc ct < csc
  · have hg' : decide (gsc ct < csc) = true := decide_eq_true hg
    rw [if_pos (by unfold gsc at hg; split at hg <;> omega)] at HE
    clear ht hs hg
    generalize gsc ct = G at *
    go_wp2_with (go_at_call 69; refine (HWc _).out.mono ?_; rintro e w' ⟨rfl, rfl⟩)
    go_quiet (first | (go_at_call 70; refine quiet7 (HGc _).out))
    go_wp2_with fail
    go_ret
    exact RetB.mk (by rw [HE.out]; rfl) (below_drewN hB _)
  · have hg' : decide (gsc ct < csc) = false := decide_eq_false hg
    rw [if_neg (by unfold gsc at hg; split at hg <;> omega)] at HE
    clear ht hs hg
    generalize gsc ct = G at *
    go_wp2_with (go_at_call 69; refine (HWc _).out.mono ?_; rintro e w' ⟨rfl, rfl⟩)
    go_quiet (first | (go_at_call 70; refine quiet7 (HGc _).out))
    go_wp2_with fail
    go_ret
    exact RetB.mk (by rw [HE.out]; rfl) (below_drewN hB _)
end Go.Proofs.Ytjbkeipagdmlpaa
