/- The walk over Pack of the reference of package bitpack. -/
import Derived.Test.YteodifbbgohkpaaBitW3
namespace Go.Proofs.Yteodifbbgohkpaa
open Go.RowKit Go.VB Go.VarM Go.BP

theorem bit_and {V t : Nat} (hV : V < 2 ^ 64) : bits .and .u64 ((V : Int) / 2 ^ t) 1 = ((V / 2 ^ t % 2 : Nat) : Int) := by
  rw [show (2 : Nat) ^ 64 = 18446744073709551616 from by decide] at hV
  have h1 : V / 2 ^ t ≤ V := Nat.div_le_self _ _
  have e : ((V : Int) / 2 ^ t) = ((V / 2 ^ t : Nat) : Int) := by push_cast; rfl
  rw [e]
  have := u64_and_nat (V / 2 ^ t) 1 (by omega) (by omega)
  rw [Nat.and_one_is_mod] at this
  exact this
theorem or_bit {B q : Nat} (hq : q < 8) (hB : B < 2 ^ q) : bits .or .u8 (B : Int) (IntKind.u8.wrap (2 ^ q)) = ((B + 2 ^ q : Nat) : Int) ∧ B + 2 ^ q < 2 ^ 8 := by
  have hp : 2 ^ q + 2 ^ q ≤ 2 ^ 8 := by
    have : 2 ^ (q + 1) ≤ 2 ^ 8 := Nat.pow_le_pow_right (by decide) (by omega)
    rw [Nat.pow_succ] at this; omega
  rw [show (2 : Nat) ^ 8 = 256 from by decide] at hp ⊢
  refine ⟨?_, by omega⟩
  have e : IntKind.u8.wrap (2 ^ q) = ((2 ^ q : Nat) : Int) := by
    have e0 : ((2 : Int) ^ q) = ((2 ^ q : Nat) : Int) := by push_cast; rfl
    have := Nat.two_pow_pos q
    rw [e0, IntWalk.u8_in _ ⟨by omega, by omega⟩]
  rw [e, u8_or_nat B _ (by omega) (by omega), Nat.or_comm, nat_join q (2 ^ q) B (Nat.mod_self _) hB, Nat.add_comm]

end Go.Proofs.Yteodifbbgohkpaa
