/- The walks over Compare, package value's and the reference's. -/
import Derived.Test.YtjbkeipagdmlpaaValW3
namespace Go.VL
open Go.RowKit Go.VB
def cmpI (a b : Int) : Int := if a < b then -1 else if b < a then 1 else 0
def cmpS (a b : ByteArray) : Int := if Go.Op.bytesLess a.toList b.toList then -1 else if Go.Op.bytesLess b.toList a.toList then 1 else 0
/-- What Compare returns. -/
def cmp (ty : Int) (x : Bool) (n : Int) (s : ByteArray) (y : Bool) (m : Int) (t : ByteArray) : Int :=
  if x then (if y then 0 else -1) else if y then 1 else if ty = 3 then cmpS s t else cmpI n m
theorem less_irr : ∀ (a : List UInt8), Go.Op.bytesLess a a = false
  | [] => rfl
  | a :: l => by simp [Go.Op.bytesLess, less_irr l]
theorem less_tri : ∀ (a b : List UInt8), Go.Op.bytesLess a b = true ∨ a = b ∨ Go.Op.bytesLess b a = true
  | [], [] => .inr (.inl rfl)
  | [], _ :: _ => .inl rfl
  | _ :: _, [] => .inr (.inr rfl)
  | a :: l, b :: m => by
    have h := less_tri l m
    simp only [Go.Op.bytesLess]
    by_cases h1 : a < b
    · simp [h1]
    · by_cases h2 : b < a
      · simp [h2]
      · have e : a = b := by
          apply UInt8.toNat_inj.1
          have h1' : ¬ a.toNat < b.toNat := h1
          have h2' : ¬ b.toNat < a.toNat := h2
          omega
        subst e
        simp only [h1, beq_self_eq_true, Bool.false_or, decide_false, Bool.true_and, List.cons.injEq, true_and]
        simpa using h
theorem less_asym : ∀ (a b : List UInt8), Go.Op.bytesLess a b = true → Go.Op.bytesLess b a = false
  | [], [], h => by simp [Go.Op.bytesLess] at h
  | [], _ :: _, _ => rfl
  | _ :: _, [], h => by simp [Go.Op.bytesLess] at h
  | a :: l, b :: m, h => by
    simp only [Go.Op.bytesLess] at h ⊢
    by_cases h1 : a < b
    · have h2 : ¬ b < a := fun h2 => by have h1' : a.toNat < b.toNat := h1; have h2' : b.toNat < a.toNat := h2; omega
      have h3 : ¬ b = a := fun e => by subst e; exact h2 h1
      simp [h2, h3]
    · simp [h1] at h
      obtain ⟨rfl, h⟩ := h
      simp [less_asym l m h]
theorem cmpS_at (s t : ByteArray) : (if Go.Op.bytesLess s.toList t.toList then -1 else if (s.toList == t.toList) then 0 else 1) = cmpS s t := by
  unfold cmpS
  have h := less_tri s.toList t.toList
  cases h1 : Go.Op.bytesLess s.toList t.toList
  · cases h2 : Go.Op.bytesLess t.toList s.toList
    · rw [h1, h2] at h
      have e : s.toList = t.toList := by simpa using h
      simp [e]
    · have e : (s.toList == t.toList) = false := beq_eq_false_iff_ne.2 fun e => by rw [e, less_irr] at h2; cases h2
      simp [e]
  · rfl
end Go.VL
namespace Go.Proofs.Ytjbkeipagdmlpaa
open Go.RowKit Go.VB Go.VL
set_option maxRecDepth 100000 in
set_option maxHeartbeats 1000000 in
theorem ordI_any (a b : Int) (w : World) : Calls Try.prog 63 #[.int .i64 a, .int .i64 b] w (Ret (.int .i64 (cmpI a b)) w) := by
  unfold cmpI
  by_cases h1 : a < b
  · rw [if_pos h1]
    go_enter Try.func63, Try.ntmps63
    go_wp2
    go_ret
    exact Ret.mk rfl
  · rw [if_neg h1]
    by_cases h2 : b < a
    · rw [if_pos h2]
      go_enter Try.func63, Try.ntmps63
      go_wp2
      go_ret
      exact Ret.mk rfl
    · rw [if_neg h2]
      go_enter Try.func63, Try.ntmps63
      go_wp2
      go_ret
      exact Ret.mk rfl
set_option maxRecDepth 100000 in
set_option maxHeartbeats 1000000 in
theorem ordS_any (a b : ByteArray) (w : World) : Calls Try.prog 62 #[.string a, .string b] w (Ret (.int .i64 (cmpS a b)) w) := by
  rw [← cmpS_at]
  cases h1 : Go.Op.bytesLess a.toList b.toList
  · cases h2 : (a.toList == b.toList)
    · go_enter Try.func62, Try.ntmps62
      go_wp2
      go_ret
      exact Ret.mk rfl
    · go_enter Try.func62, Try.ntmps62
      go_wp2
      go_ret
      exact Ret.mk rfl
  · go_enter Try.func62, Try.ntmps62
    go_wp2
    go_ret
    exact Ret.mk rfl
set_option maxRecDepth 100000 in
set_option maxHeartbeats 1000000 in
theorem rord_any (a b : Bool) (w : World) : Calls Try.prog 64 #[.bool a, .bool b] w (Ret (.int .i64 (if a then -1 else if b then 0 else 1)) w) := by
  cases a
  · cases b
    · go_enter Try.func64, Try.ntmps64
      go_wp2
      go_ret
      exact Ret.mk rfl
    · go_enter Try.func64, Try.ntmps64
      go_wp2
      go_ret
      exact Ret.mk rfl
  · go_enter Try.func64, Try.ntmps64
    go_wp2
    go_ret
    exact Ret.mk rfl
set_option maxRecDepth 100000 in
set_option maxHeartbeats 2000000 in
theorem cmp_any (ty : Int) (x : Bool) (n : Int) (s : ByteArray) (y : Bool) (m : Int) (t : ByteArray) (w : World) :
    Calls Try.prog 46 #[.int .i64 ty, (.agg #[.bool x, .int .i64 n, .string s]), (.agg #[.bool y, .int .i64 m, .string t])] w (RetB (.int .i64 (cmp ty x n s y m t)) w) := by
  have HS := fun w => Lib.hid (ordS_any s t w)
  have HI := fun w => Lib.hid (ordI_any n m w)
  have hu : cmp ty x n s y m t = if x then (if y then 0 else -1) else if y then 1 else if ty = 3 then cmpS s t else cmpI n m := rfl
  rw [hu]; clear hu
  generalize cmpS s t = cs at *
  generalize cmpI n m = ci at *
  cases x
  · cases y
    · by_cases h3 : ty = 3
      · subst h3
        go_enter Try.func46, Try.ntmps46
        go_wp2_with (go_at_call 62; refine (HS _).out.mono ?_; rintro e w' ⟨rfl, rfl⟩)
        go_ret
        exact RetB.mk rfl (by go_grown)
      · rw [if_neg (by simp), if_neg (by simp), if_neg h3]
        have e3 := ieq_f h3
        clear h3
        go_enter Try.func46, Try.ntmps46
        go_wp2_with (go_at_call 63; refine (HI _).out.mono ?_; rintro e w' ⟨rfl, rfl⟩)
        go_ret
        exact RetB.mk rfl (by go_grown)
    · go_enter Try.func46, Try.ntmps46
      go_wp2
      go_ret
      exact RetB.mk rfl (by go_grown)
  · cases y
    all_goals
      go_enter Try.func46, Try.ntmps46
      go_wp2
      go_ret
      exact RetB.mk rfl (by go_grown)
theorem cmpI_at (n m : Int) : (if decide (n < m) then -1 else if (n == m) then 0 else 1) = cmpI n m := by
  unfold cmpI
  by_cases h1 : n < m
  · simp [h1]
  · by_cases h2 : m < n
    · simp [h1, h2, ieq_f (show ¬ n = m by omega)]
    · simp [h1, h2, ieq_t (show n = m by omega)]
set_option maxRecDepth 100000 in
set_option maxHeartbeats 2000000 in
theorem rcmp_any (ty : Int) (x : Bool) (n : Int) (s : ByteArray) (y : Bool) (m : Int) (t : ByteArray) (w : World) :
    Calls Try.prog 47 #[.int .i64 ty, (.agg #[.bool x, .int .i64 n, .string s]), (.agg #[.bool y, .int .i64 m, .string t])] w (RetB (.int .i64 (cmp ty x n s y m t)) w) := by
  have HS := fun w => Lib.hid (rord_any (Go.Op.bytesLess s.toList t.toList) (s.toList == t.toList) w)
  rw [cmpS_at] at HS
  have HI := fun w => Lib.hid (rord_any (decide (n < m)) (n == m) w)
  rw [cmpI_at] at HI
  have hu : cmp ty x n s y m t = if x then (if y then 0 else -1) else if y then 1 else if ty = 3 then cmpS s t else cmpI n m := rfl
  rw [hu]; clear hu
  generalize cmpS s t = cs at *
  generalize cmpI n m = ci at *
  cases x
  · cases y
    · by_cases h3 : ty = 3
      · subst h3
        go_enter Try.func47, Try.ntmps47
        go_wp2_with (go_at_call 64; refine (HS _).out.mono ?_; rintro e w' ⟨rfl, rfl⟩)
        go_ret
        exact RetB.mk rfl (by go_grown)
      · rw [if_neg (by simp), if_neg (by simp), if_neg h3]
        have e3 := ieq_f h3
        clear h3
        go_enter Try.func47, Try.ntmps47
        go_wp2_with (go_at_call 64; refine (HI _).out.mono ?_; rintro e w' ⟨rfl, rfl⟩)
        go_ret
        exact RetB.mk rfl (by go_grown)
    · go_enter Try.func47, Try.ntmps47
      go_wp2
      go_ret
      exact RetB.mk rfl (by go_grown)
  · cases y
    all_goals
      go_enter Try.func47, Try.ntmps47
      go_wp2
      go_ret
      exact RetB.mk rfl (by go_grown)
end Go.Proofs.Ytjbkeipagdmlpaa
