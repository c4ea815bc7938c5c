/- The walks over package date and its reference: the day of a text. -/
import Derived.Test.YtidlemedkjkmdaaDoorDateW4
import Derived.BigRegion
import Derived.StillTailTactics
namespace Go.DT
open Go.VB Go.RowKit
theorem below_drewN {n : Nat} {w w' : World} (h : Below n w w') (k : Nat) : Below n w (w'.drewN k) := by
  induction k generalizing w' with
  | zero => exact h
  | succ k ih => exact (ih h).drew
theorem dn_eq {a b c a' b' c' : Nat} (h1 : a = a') (h2 : b = b') (h3 : c = c') : dn a b c = dn a' b' c' := by rw [h1, h2, h3]
end Go.DT
namespace Go.VB
/-- A callee that returns v and leaves the world, within a quiet region. -/
theorem quiet_ret {P : Program} {f : FuncId} {args : Array Value} {w : World} {n : Nat} {v : Value} (h : Calls P f args (w.drewN n) (Ret v (w.drewN n))) :
    Calls P f args (w.drewN n) fun e w'' => e = .returned v ∧ ∃ m, w'' = w.drewN m := h.mono fun _ _ ⟨he, hm⟩ => ⟨he, n, hm.symm⟩
end Go.VB
namespace Go.Proofs.YtidlemedkjkmdaaDoor
open Go.RowKit Go.VB Go.DT
theorem number_cut (s : ByteArray) (i j : Nat) (w : World) (hf : form s) (hj : j ≤ 10) (hij : j ≤ i + 4) (h7 : j ≤ 4 ∨ i = 5 ∨ 8 ≤ i) (h5 : j ≤ 7 ∨ 8 ≤ i) :
    Calls Tryd.prog 66 #[.string (s.extract i j)] w (Ret (.int .i64 (nm s i (j - i) : Nat)) w) := by
  have hs := size_extract s i j (by rw [hf.1]; exact hj)
  have h := number_any (s.extract i j) w (by omega) (fun k hk => by
    rw [hs] at hk
    rw [bN_extract s i j k hk]
    exact fits_dig (hf.2 (i + k) (by omega)) (by omega) (by omega))
  rw [hs, nm_extract s i j (j - i) (Nat.le_refl _)] at h
  exact h
set_option maxRecDepth 100000 in
set_option maxHeartbeats 2000000 in
theorem parse_any (s : ByteArray) (w : World) (zs : s.size ≤ 140737488351232) : Calls Tryd.prog 52 #[.string s] w (RetB (.tuple #[.int .i64 (pn s), .int .i64 (pc s : Nat)]) w) := by
  have hl := layout_any s w zs
  by_cases hf : form s
  · rw [decide_eq_true hf] at hl
    have HL := Lib.hid hl; clear hl
    have h1 := fun w => Lib.hid (number_cut s 0 4 w hf (by decide) (by decide) (.inl (by decide)) (.inl (by decide)))
    have h2 := fun w => Lib.hid (number_cut s 5 7 w hf (by decide) (by decide) (.inr (.inl rfl)) (.inl (by decide)))
    have h3 := fun w => Lib.hid (number_cut s 8 10 w hf (by decide) (by decide) (.inr (.inr (by decide))) (.inr (by decide)))
    have h4 := fun w => Lib.hid (days_any (nm s 0 4 : Nat) (nm s 5 2 : Nat) (nm s 8 2 : Nat) w)
    rw [pn_in hf, pc_in hf]
    have hz1 : s.size ≤ 10 := Nat.le_of_eq hf.1
    have hz2 : 10 ≤ s.size := Nat.le_of_eq hf.1.symm
    have t1 : (4 : Int) ≤ (s.size : Int) := by omega
    have t2 : (7 : Int) ≤ (s.size : Int) := by omega
    have t3 : (10 : Int) ≤ (s.size : Int) := by omega
    clear hf
    generalize dn (nm s 0 4 : Nat) (nm s 5 2 : Nat) (nm s 8 2 : Nat) = N at *
    generalize dc (nm s 0 4 : Nat) (nm s 5 2 : Nat) (nm s 8 2 : Nat) = C at *
    generalize nm s 0 4 = a at *
    generalize nm s 5 2 = b at *
    generalize nm s 8 2 = c at *
    go_enter Tryd.func52, Tryd.ntmps52
    go_wp2_with (go_at_call 64; refine HL.out.mono ?_; rintro e w' ⟨rfl, rfl⟩)
    go_quiet (first
      | (go_at_call 66; (with_reducible refine quiet_ret (h1 _).out))
      | (go_at_call 66; (with_reducible refine quiet_ret (h2 _).out))
      | (go_at_call 66; (with_reducible refine quiet_ret (h3 _).out))
      | (go_at_call 65; refine quiet_ret (h4 _).out))
    go_wp2
    go_ret2
    exact RetB.mk rfl (below_drewN (Below.refl _ _) _)
  · rw [decide_eq_false hf] at hl
    have HL := Lib.hid hl; clear hl
    rw [pn_out hf, pc_out hf]
    clear hf
    go_enter Tryd.func52, Tryd.ntmps52
    go_wp2_with (go_at_call 64; refine HL.out.mono ?_; rintro e w' ⟨rfl, rfl⟩)
    go_ret2
    exact RetB.mk rfl (Below.refl _ _)
end Go.Proofs.YtidlemedkjkmdaaDoor
