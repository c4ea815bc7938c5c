/- Layer 6: what Check, Compare return; values and columns as they come in. -/
import Derived.Test.YtnmlajmaffiigaaGreatDoorGa
import Derived.BigQuiet
import Derived.BigRegion
import Derived.StillTailTactics
import Derived.Handy
namespace Go.VL
open Go.RowKit Go.VB

/-- The value n, s lies in the range of a type. -/
def okP (ty n : Int) (s : ByteArray) : Bool :=
  if ty = 2 then decide (n = 0 ∨ n = 1) else if ty = 3 then decide (s.size ≤ 64) else if ty = 4 then decide (-719162 ≤ n ∧ n ≤ 2932896)
  else if ty = 5 then decide (-999999999999999999 ≤ n ∧ n ≤ 999999999999999999) else true
def okT (ty : Int) : Bool := decide (1 ≤ ty ∧ ty ≤ 5)
/-- What Check returns. -/
def chk (ty : Int) (nu nul : Bool) (n : Int) (s : ByteArray) : Nat :=
  if okT ty = false then 1
  else if nul then (if n ≠ 0 ∨ s.size ≠ 0 then 11 else if nu then 0 else 12)
  else if (ty = 3 ∧ n ≠ 0) ∨ (ty ≠ 3 ∧ s.size ≠ 0) then 11
  else if okP ty n s then 0 else 4
theorem chk_ty {ty n : Int} {nu nul : Bool} {s : ByteArray} (h : okT ty = false) : chk ty nu nul n s = 1 := if_pos h
theorem chk_nul {ty n : Int} {nu : Bool} {s : ByteArray} (h : okT ty = true) : chk ty nu true n s = if n ≠ 0 ∨ s.size ≠ 0 then 11 else if nu then 0 else 12 := by
  unfold chk; rw [h]; rfl
theorem chk_val {ty n : Int} {nu : Bool} {s : ByteArray} (h : okT ty = true) : chk ty nu false n s = if (ty = 3 ∧ n ≠ 0) ∨ (ty ≠ 3 ∧ s.size ≠ 0) then 11 else if okP ty n s then 0 else 4 := by
  unfold chk; rw [h]; rfl
theorem ieq_t {a b : Int} (h : a = b) : (a == b) = true := beq_iff_eq.2 h
theorem ieq_f {a b : Int} (h : ¬ a = b) : (a == b) = false := beq_eq_false_iff_ne.2 h
theorem ine_t {a b : Int} (h : ¬ a = b) : (a != b) = true := by simp [bne, ieq_f h]
theorem ine_f {a b : Int} (h : a = b) : (a != b) = false := by simp [bne, ieq_t h]
end Go.VL

namespace Go.VL
open Go.RowKit Go.VB
/-- A variable of three cells in block b. -/
structure Var3 (w : World) (b : Nat) (x y z : Value) : Prop where
  c0 : w.cell? ⟨b, 0, none⟩ = some x
  c1 : w.cell? ⟨b, 1, none⟩ = some y
  c2 : w.cell? ⟨b, 2, none⟩ = some z
  f0 : w.frozen? ⟨b, 0, none⟩ = false
  f1 : w.frozen? ⟨b, 1, none⟩ = false
  f2 : w.frozen? ⟨b, 2, none⟩ = false
theorem Var3.new (w : World) (x y z : Value) (T : TypeId) : Var3 (w.alloc (.cells #[x, y, z] T)) w.heap.size x y z := by
  constructor <;> simp
theorem Var3.lt {w : World} {b : Nat} {x y z : Value} (h : Var3 w b x y z) : b < w.heap.size := World.block_lt_of_cell? w _ h.c0
theorem Var3.below {w w' : World} {b B : Nat} {x y z : Value} (h : Var3 w b x y z) (hb : Below B w w') (hB : b < B) : Var3 w' b x y z := by
  constructor
  · rw [hb.cell hB]; exact h.c0
  · rw [hb.cell hB]; exact h.c1
  · rw [hb.cell hB]; exact h.c2
  · rw [hb.frozen hB]; exact h.f0
  · rw [hb.frozen hB]; exact h.f1
  · rw [hb.frozen hB]; exact h.f2
theorem Var3.step {w w' : World} {b : Nat} {x y z : Value} (h : Var3 w b x y z) (hb : Below w.heap.size w w') : Var3 w' b x y z := h.below hb h.lt
theorem Var3.set {w : World} {b : Nat} {x y z : Value} (h : Var3 w b x y z) (x' y' z' : Value) : Var3 (((w.setCell ⟨b, 0, none⟩ x').setCell ⟨b, 1, none⟩ y').setCell ⟨b, 2, none⟩ z') b x' y' z' := by
  constructor
  · rw [World.cell?_setCell_other _ _ _ _ (by simp), World.cell?_setCell_other _ _ _ _ (by simp), World.cell?_setCell_same _ _ _ h.c0]
  · rw [World.cell?_setCell_other _ _ _ _ (by simp), World.cell?_setCell_same _ _ _ ((World.cell?_setCell_other _ _ _ _ (by simp)).trans h.c1)]
  · rw [World.cell?_setCell_same _ _ _ ((World.cell?_setCell_other _ _ _ _ (by simp)).trans ((World.cell?_setCell_other _ _ _ _ (by simp)).trans h.c2))]
  · rw [World.frozen?_setCell, World.frozen?_setCell, World.frozen?_setCell]; exact h.f0
  · rw [World.frozen?_setCell, World.frozen?_setCell, World.frozen?_setCell]; exact h.f1
  · rw [World.frozen?_setCell, World.frozen?_setCell, World.frozen?_setCell]; exact h.f2
theorem set3_below {B : Nat} {w0 w : World} {b : Nat} (h : Below B w0 w) (hB : B ≤ b) (x y z : Value) : Below B w0 (((w.setCell ⟨b, 0, none⟩ x).setCell ⟨b, 1, none⟩ y).setCell ⟨b, 2, none⟩ z) :=
  ((h.setCell (p := ⟨b, 0, none⟩) hB x).setCell (p := ⟨b, 1, none⟩) hB y).setCell (p := ⟨b, 2, none⟩) hB z
/-- A variable of four cells in block b. -/
structure Var4 (w : World) (b : Nat) (x y z u : Value) : Prop where
  c0 : w.cell? ⟨b, 0, none⟩ = some x
  c1 : w.cell? ⟨b, 1, none⟩ = some y
  c2 : w.cell? ⟨b, 2, none⟩ = some z
  c3 : w.cell? ⟨b, 3, none⟩ = some u
theorem Var4.new (w : World) (x y z u : Value) (T : TypeId) : Var4 (w.alloc (.cells #[x, y, z, u] T)) w.heap.size x y z u := by
  constructor <;> simp
theorem Var4.lt {w : World} {b : Nat} {x y z u : Value} (h : Var4 w b x y z u) : b < w.heap.size := World.block_lt_of_cell? w _ h.c0
theorem Var4.below {w w' : World} {b B : Nat} {x y z u : Value} (h : Var4 w b x y z u) (hb : Below B w w') (hB : b < B) : Var4 w' b x y z u := by
  constructor
  · rw [hb.cell hB]; exact h.c0
  · rw [hb.cell hB]; exact h.c1
  · rw [hb.cell hB]; exact h.c2
  · rw [hb.cell hB]; exact h.c3
theorem Var4.step {w w' : World} {b : Nat} {x y z u : Value} (h : Var4 w b x y z u) (hb : Below w.heap.size w w') : Var4 w' b x y z u := h.below hb h.lt
end Go.VL

namespace Go.Proofs.YtnmlajmaffiigaaGreatDoor
open Go.RowKit Go.VB Go.VL
set_option maxRecDepth 100000 in
set_option maxHeartbeats 1000000 in
theorem isType_any (ty : Int) (w : World) : Calls Tryz.prog 187 #[.int .i64 ty] w (Ret (.bool (okT ty)) w) := by
  by_cases h : 1 ≤ ty ∧ ty ≤ 5
  · have hv : okT ty = true := decide_eq_true h
    rw [hv]; clear hv
    have h5 : ty = 1 ∨ ty = 2 ∨ ty = 3 ∨ ty = 4 ∨ ty = 5 := by omega
    clear h
    rcases h5 with rfl | rfl | rfl | rfl | rfl
    all_goals
      go_enter Tryz.func187, Tryz.ntmps187
      go_wp2
      go_ret
      exact Ret.mk rfl
  · have hv : okT ty = false := decide_eq_false h
    rw [hv]; clear hv
    have e1 : (ty == 1) = false := ieq_f (by omega)
    have e2 : (ty == 2) = false := ieq_f (by omega)
    have e3 : (ty == 3) = false := ieq_f (by omega)
    have e4 : (ty == 4) = false := ieq_f (by omega)
    have e5 : (ty == 5) = false := ieq_f (by omega)
    clear h
    go_enter Tryz.func187, Tryz.ntmps187
    go_wp2
    go_ret
    exact Ret.mk rfl
set_option maxRecDepth 100000 in
set_option maxHeartbeats 1000000 in
theorem isPerm_any (ty : Int) (nul : Bool) (n : Int) (s : ByteArray) (w : World) : Calls Tryz.prog 188 #[.int .i64 ty, (.agg #[.bool nul, .int .i64 n, .string s])] w (RetB (.bool (okP ty n s)) w) := by
  by_cases h2 : ty = 2
  · subst h2
    by_cases h0 : n = 0
    · subst h0
      go_enter Tryz.func188, Tryz.ntmps188
      go_wp2
      go_ret
      exact RetB.mk rfl (by go_grown)
    · by_cases h1 : n = 1
      · subst h1
        go_enter Tryz.func188, Tryz.ntmps188
        go_wp2
        go_ret
        exact RetB.mk rfl (by go_grown)
      · have hv : okP 2 n s = false := decide_eq_false (by omega)
        rw [hv]
        have e0 := ieq_f h0
        have e1 := ieq_f h1
        clear hv h0 h1
        go_enter Tryz.func188, Tryz.ntmps188
        go_wp2
        go_ret
        exact RetB.mk rfl (by go_grown)
  · have e2 := ieq_f h2
    by_cases h3 : ty = 3
    · subst h3
      have hv : okP 3 n s = decide (s.size ≤ 64) := rfl
      rw [hv]; clear hv
      go_enter Tryz.func188, Tryz.ntmps188
      go_wp2
      go_ret
      exact RetB.mk (by simp; omega) (by go_grown)
    · have e3 := ieq_f h3
      by_cases h4 : ty = 4
      · subst h4
        have hv : okP 4 n s = decide (-719162 ≤ n ∧ n ≤ 2932896) := rfl
        rw [hv]; clear hv h2 h3 e2 e3
        by_cases g1 : -719162 ≤ n
        · go_enter Tryz.func188, Tryz.ntmps188
          go_wp2
          go_ret
          exact RetB.mk (by simp [g1]) (by go_grown)
        · rw [decide_eq_false (fun h => g1 h.1)]
          go_enter Tryz.func188, Tryz.ntmps188
          go_wp2
          go_ret
          exact RetB.mk rfl (by go_grown)
      · have e4 := ieq_f h4
        by_cases h5 : ty = 5
        · subst h5
          have hv : okP 5 n s = decide (-999999999999999999 ≤ n ∧ n ≤ 999999999999999999) := rfl
          rw [hv]; clear hv h2 h3 h4 e2 e3 e4
          by_cases g1 : -999999999999999999 ≤ n
          · go_enter Tryz.func188, Tryz.ntmps188
            go_wp2
            go_ret
            exact RetB.mk (by simp [g1]) (by go_grown)
          · rw [decide_eq_false (fun h => g1 h.1)]
            go_enter Tryz.func188, Tryz.ntmps188
            go_wp2
            go_ret
            exact RetB.mk rfl (by go_grown)
        · have e5 := ieq_f h5
          have hv : okP ty n s = true := by unfold okP; rw [if_neg h2, if_neg h3, if_neg h4, if_neg h5]
          rw [hv]; clear hv h2 h3 h4 h5
          go_enter Tryz.func188, Tryz.ntmps188
          go_wp2
          go_ret
          exact RetB.mk rfl (by go_grown)
end Go.Proofs.YtnmlajmaffiigaaGreatDoor

namespace Go.VL
open Go.RowKit Go.VB
theorem s_empty {s : ByteArray} (h : s.size = 0) : s = ⟨#[]⟩ := by
  apply ByteArray.ext
  apply Array.toList_inj.1
  exact List.eq_nil_of_length_eq_zero (by rw [size_list]; omega)
theorem s_full {s : ByteArray} (h : ¬ s.size = 0) : s.toList.isEmpty = false := by
  rw [ByteArray.toList_eq]
  cases hl : s.data.toList with
  | nil => rw [← size_list, hl] at h; exact absurd rfl h
  | cons _ _ => rfl
end Go.VL
namespace Go.Proofs.YtnmlajmaffiigaaGreatDoor
open Go.RowKit Go.VB Go.VL
set_option maxRecDepth 100000 in
set_option maxHeartbeats 4000000 in
theorem chk_any (nm : ByteArray) (ty sc : Int) (nu nul : Bool) (n : Int) (s : ByteArray) (w : World) :
    Calls Tryz.prog 149 #[(.agg #[.string nm, .int .i64 ty, .int .i64 sc, .bool nu]), (.agg #[.bool nul, .int .i64 n, .string s])] w (RetB (.int .i64 (chk ty nu nul n s : Nat)) w) := by
  have HT := fun w => Lib.hid (isType_any ty w)
  by_cases hT : okT ty = true
  · rw [hT] at HT
    cases nul
    · rw [chk_val hT]
      clear hT
      have HP := fun w => Lib.hid (isPerm_any ty false n s w)
      by_cases h3 : ty = 3
      · subst h3
        by_cases hn : n = 0
        · subst hn
          rw [if_neg (by omega)]
          generalize okP 3 0 s = b at HP
          by_cases hs : s.size = 0
          · obtain rfl := s_empty hs
            clear hs
            cases b
            all_goals
              go_enter Tryz.func149, Tryz.ntmps149
              go_wp2_with (first | (go_at_call 187; refine (HT _).out.mono ?_; rintro e w' ⟨rfl, rfl⟩) | (go_at_call 188; refine (HP _).out.mono ?_; rintro e w' ⟨rfl, hb⟩))
              go_ret
              exact RetB.mk rfl (bel_trans (by go_grown) hb)
          · have he := s_full hs
            clear hs
            cases b
            all_goals
              go_enter Tryz.func149, Tryz.ntmps149
              go_wp2_with (first | (go_at_call 187; refine (HT _).out.mono ?_; rintro e w' ⟨rfl, rfl⟩) | (go_at_call 188; refine (HP _).out.mono ?_; rintro e w' ⟨rfl, hb⟩))
              go_ret
              exact RetB.mk rfl (bel_trans (by go_grown) hb)
        · rw [if_pos (.inl ⟨rfl, hn⟩)]
          have e1 := ine_t hn
          clear hn HP
          go_enter Tryz.func149, Tryz.ntmps149
          go_wp2_with (go_at_call 187; refine (HT _).out.mono ?_; rintro e w' ⟨rfl, rfl⟩)
          go_ret
          exact RetB.mk rfl (by go_grown)
      · have e3 := ieq_f h3
        have f3 := ine_t h3
        by_cases hs : s.size = 0
        · rw [if_neg (by omega)]
          obtain rfl := s_empty hs
          generalize okP ty n ⟨#[]⟩ = b at HP
          clear hs h3
          have hn : (n != 0) = true ∨ (n != 0) = false := by cases n != 0 <;> simp
          rcases hn with hn | hn
          all_goals
            cases b
            all_goals
              go_enter Tryz.func149, Tryz.ntmps149
              go_wp2_with (first | (go_at_call 187; refine (HT _).out.mono ?_; rintro e w' ⟨rfl, rfl⟩) | (go_at_call 188; refine (HP _).out.mono ?_; rintro e w' ⟨rfl, hb⟩))
              go_ret
              exact RetB.mk rfl (bel_trans (by go_grown) hb)
        · rw [if_pos (.inr ⟨h3, hs⟩)]
          have he := s_full hs
          clear hs h3 HP
          have hn : (n != 0) = true ∨ (n != 0) = false := by cases n != 0 <;> simp
          rcases hn with hn | hn
          all_goals
            go_enter Tryz.func149, Tryz.ntmps149
            go_wp2_with (go_at_call 187; refine (HT _).out.mono ?_; rintro e w' ⟨rfl, rfl⟩)
            go_ret
            exact RetB.mk rfl (by go_grown)
    · rw [chk_nul hT]
      clear hT
      by_cases hn : n = 0
      · subst hn
        by_cases hs : s.size = 0
        · obtain rfl := s_empty hs
          rw [if_neg (by rintro (h | h) <;> exact h rfl)]
          clear hs
          cases nu
          all_goals
            go_enter Tryz.func149, Tryz.ntmps149
            go_wp2_with (go_at_call 187; refine (HT _).out.mono ?_; rintro e w' ⟨rfl, rfl⟩)
            go_ret
            exact RetB.mk rfl (by go_grown)
        · rw [if_pos (.inr hs)]
          have he := s_full hs
          clear hs
          go_enter Tryz.func149, Tryz.ntmps149
          go_wp2_with (go_at_call 187; refine (HT _).out.mono ?_; rintro e w' ⟨rfl, rfl⟩)
          go_ret
          exact RetB.mk rfl (by go_grown)
      · rw [if_pos (.inl hn)]
        have e1 := ine_t hn
        clear hn
        go_enter Tryz.func149, Tryz.ntmps149
        go_wp2_with (go_at_call 187; refine (HT _).out.mono ?_; rintro e w' ⟨rfl, rfl⟩)
        go_ret
        exact RetB.mk rfl (by go_grown)
  · have hT' : okT ty = false := by simpa using hT
    rw [hT'] at HT
    rw [chk_ty hT']
    clear hT hT'
    go_enter Tryz.func149, Tryz.ntmps149
    go_wp2_with (go_at_call 187; refine (HT _).out.mono ?_; rintro e w' ⟨rfl, rfl⟩)
    go_ret
    exact RetB.mk rfl (by go_grown)
end Go.Proofs.YtnmlajmaffiigaaGreatDoor

namespace Go.VL
theorem okT_five {ty : Int} (h : okT ty = true) : ty = 1 ∨ ty = 2 ∨ ty = 3 ∨ ty = 4 ∨ ty = 5 := by
  have := of_decide_eq_true h; omega
end Go.VL
namespace Go.Proofs.YtnmlajmaffiigaaGreatDoor
open Go.RowKit Go.VB Go.VL
end Go.Proofs.YtnmlajmaffiigaaGreatDoor

namespace Go.VL
open Go.RowKit Go.VB
def cmpI (a b : Int) : Int := if a < b then -1 else if b < a then 1 else 0
def cmpS (a b : ByteArray) : Int := if Go.Op.bytesLess a.toList b.toList then -1 else if Go.Op.bytesLess b.toList a.toList then 1 else 0
/-- What Compare returns. -/
def cmp (ty : Int) (x : Bool) (n : Int) (s : ByteArray) (y : Bool) (m : Int) (t : ByteArray) : Int :=
  if x then (if y then 0 else -1) else if y then 1 else if ty = 3 then cmpS s t else cmpI n m
theorem less_irr : ∀ (a : List UInt8), Go.Op.bytesLess a a = false
  | [] => rfl
  | a :: l => by simp [Go.Op.bytesLess, less_irr l]
theorem less_tri : ∀ (a b : List UInt8), Go.Op.bytesLess a b = true ∨ a = b ∨ Go.Op.bytesLess b a = true
  | [], [] => .inr (.inl rfl)
  | [], _ :: _ => .inl rfl
  | _ :: _, [] => .inr (.inr rfl)
  | a :: l, b :: m => by
    have h := less_tri l m
    simp only [Go.Op.bytesLess]
    by_cases h1 : a < b
    · simp [h1]
    · by_cases h2 : b < a
      · simp [h2]
      · have e : a = b := by
          apply UInt8.toNat_inj.1
          have h1' : ¬ a.toNat < b.toNat := h1
          have h2' : ¬ b.toNat < a.toNat := h2
          omega
        subst e
        simp only [h1, beq_self_eq_true, Bool.false_or, decide_false, Bool.true_and, List.cons.injEq, true_and]
        simpa using h
theorem less_asym : ∀ (a b : List UInt8), Go.Op.bytesLess a b = true → Go.Op.bytesLess b a = false
  | [], [], h => by simp [Go.Op.bytesLess] at h
  | [], _ :: _, _ => rfl
  | _ :: _, [], h => by simp [Go.Op.bytesLess] at h
  | a :: l, b :: m, h => by
    simp only [Go.Op.bytesLess] at h ⊢
    by_cases h1 : a < b
    · have h2 : ¬ b < a := fun h2 => by have h1' : a.toNat < b.toNat := h1; have h2' : b.toNat < a.toNat := h2; omega
      have h3 : ¬ b = a := fun e => by subst e; exact h2 h1
      simp [h2, h3]
    · simp [h1] at h
      obtain ⟨rfl, h⟩ := h
      simp [less_asym l m h]
theorem cmpS_at (s t : ByteArray) : (if Go.Op.bytesLess s.toList t.toList then -1 else if (s.toList == t.toList) then 0 else 1) = cmpS s t := by
  unfold cmpS
  have h := less_tri s.toList t.toList
  cases h1 : Go.Op.bytesLess s.toList t.toList
  · cases h2 : Go.Op.bytesLess t.toList s.toList
    · rw [h1, h2] at h
      have e : s.toList = t.toList := by simpa using h
      simp [e]
    · have e : (s.toList == t.toList) = false := beq_eq_false_iff_ne.2 fun e => by rw [e, less_irr] at h2; cases h2
      simp [e]
  · rfl
end Go.VL
namespace Go.Proofs.YtnmlajmaffiigaaGreatDoor
open Go.RowKit Go.VB Go.VL
set_option maxRecDepth 100000 in
set_option maxHeartbeats 1000000 in
theorem ordI_any (a b : Int) (w : World) : Calls Tryz.prog 195 #[.int .i64 a, .int .i64 b] w (Ret (.int .i64 (cmpI a b)) w) := by
  unfold cmpI
  by_cases h1 : a < b
  · rw [if_pos h1]
    go_enter Tryz.func195, Tryz.ntmps195
    go_wp2
    go_ret
    exact Ret.mk rfl
  · rw [if_neg h1]
    by_cases h2 : b < a
    · rw [if_pos h2]
      go_enter Tryz.func195, Tryz.ntmps195
      go_wp2
      go_ret
      exact Ret.mk rfl
    · rw [if_neg h2]
      go_enter Tryz.func195, Tryz.ntmps195
      go_wp2
      go_ret
      exact Ret.mk rfl
set_option maxRecDepth 100000 in
set_option maxHeartbeats 1000000 in
theorem ordS_any (a b : ByteArray) (w : World) : Calls Tryz.prog 194 #[.string a, .string b] w (Ret (.int .i64 (cmpS a b)) w) := by
  rw [← cmpS_at]
  cases h1 : Go.Op.bytesLess a.toList b.toList
  · cases h2 : (a.toList == b.toList)
    · go_enter Tryz.func194, Tryz.ntmps194
      go_wp2
      go_ret
      exact Ret.mk rfl
    · go_enter Tryz.func194, Tryz.ntmps194
      go_wp2
      go_ret
      exact Ret.mk rfl
  · go_enter Tryz.func194, Tryz.ntmps194
    go_wp2
    go_ret
    exact Ret.mk rfl
set_option maxRecDepth 100000 in
set_option maxHeartbeats 2000000 in
theorem cmp_any (ty : Int) (x : Bool) (n : Int) (s : ByteArray) (y : Bool) (m : Int) (t : ByteArray) (w : World) :
    Calls Tryz.prog 154 #[.int .i64 ty, (.agg #[.bool x, .int .i64 n, .string s]), (.agg #[.bool y, .int .i64 m, .string t])] w (RetB (.int .i64 (cmp ty x n s y m t)) w) := by
  have HS := fun w => Lib.hid (ordS_any s t w)
  have HI := fun w => Lib.hid (ordI_any n m w)
  have hu : cmp ty x n s y m t = if x then (if y then 0 else -1) else if y then 1 else if ty = 3 then cmpS s t else cmpI n m := rfl
  rw [hu]; clear hu
  generalize cmpS s t = cs at *
  generalize cmpI n m = ci at *
  cases x
  · cases y
    · by_cases h3 : ty = 3
      · subst h3
        go_enter Tryz.func154, Tryz.ntmps154
        go_wp2_with (go_at_call 194; refine (HS _).out.mono ?_; rintro e w' ⟨rfl, rfl⟩)
        go_ret
        exact RetB.mk rfl (by go_grown)
      · rw [if_neg (by simp), if_neg (by simp), if_neg h3]
        have e3 := ieq_f h3
        clear h3
        go_enter Tryz.func154, Tryz.ntmps154
        go_wp2_with (go_at_call 195; refine (HI _).out.mono ?_; rintro e w' ⟨rfl, rfl⟩)
        go_ret
        exact RetB.mk rfl (by go_grown)
    · go_enter Tryz.func154, Tryz.ntmps154
      go_wp2
      go_ret
      exact RetB.mk rfl (by go_grown)
  · cases y
    all_goals
      go_enter Tryz.func154, Tryz.ntmps154
      go_wp2
      go_ret
      exact RetB.mk rfl (by go_grown)
end Go.Proofs.YtnmlajmaffiigaaGreatDoor

namespace Go.Proofs.YtnmlajmaffiigaaGreatDoor
open Go.RowKit Go.VB Go.VL
/-- The name of a column. -/
def xs : ByteArray := ⟨#[120]⟩
end Go.Proofs.YtnmlajmaffiigaaGreatDoor
