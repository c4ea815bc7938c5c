/- The walks over package bitpack and its reference: widths, needs, reading bits. -/
import Derived.Test.YteodifbbgohkpaaBits
import Derived.Test.YteodifbbgohkpaaKit
namespace Go.Proofs.Yteodifbbgohkpaa
open Go.RowKit Go.VB Go.VarM Go.BP

theorem or_get {V B low got : Nat} (hV : V < 2 ^ got) (hg : got ≤ 63) (hB : B < 256) :
    bits .or .u64 (V : Int) (IntKind.u64.wrap (IntKind.u64.wrap ((B : Int) / 2 ^ low) * 2 ^ got)) = ((V + B / 2 ^ low % 2 ^ (64 - got) * 2 ^ got : Nat) : Int) := by
  have h1 : B / 2 ^ low ≤ B := Nat.div_le_self _ _
  have e1 : ((B : Int) / 2 ^ low) = ((B / 2 ^ low : Nat) : Int) := by push_cast; rfl
  rw [e1]
  generalize B / 2 ^ low = x at *
  have hp : (2 : Nat) ^ 64 = 2 ^ (64 - got) * 2 ^ got := by rw [← Nat.pow_add, show 64 - got + got = 64 from by omega]
  have hx : x % 2 ^ (64 - got) < 2 ^ (64 - got) := Nat.mod_lt _ (Nat.two_pow_pos _)
  have hlt : x % 2 ^ (64 - got) * 2 ^ got + V < 2 ^ 64 := by
    rw [hp]
    have : (x % 2 ^ (64 - got) + 1) * 2 ^ got ≤ 2 ^ (64 - got) * 2 ^ got := Nat.mul_le_mul_right _ hx
    rw [Nat.add_mul] at this
    omega
  rw [show (2 : Nat) ^ 64 = 18446744073709551616 from by decide] at hlt hp
  have e2 : IntKind.u64.wrap (IntKind.u64.wrap (x : Int) * 2 ^ got) = ((x % 2 ^ (64 - got) * 2 ^ got : Nat) : Int) := by
    rw [IntWalk.u64_in (x : Int) ⟨by omega, by omega⟩, IntKind.wrap_u64]
    have : ((x : Int) * 2 ^ got) = ((x * 2 ^ got : Nat) : Int) := by push_cast; rfl
    rw [this, show (18446744073709551616 : Int) = ((18446744073709551616 : Nat) : Int) from rfl, ← Int.natCast_emod, hp, Nat.mul_mod_mul_right]
  rw [e2, u64_or_nat V _ (by omega) (by omega), Nat.or_comm, nat_join got _ V (Nat.mul_mod_left _ _) hV, Nat.add_comm]
theorem get_join (N at' got : Nat) (hg : got ≤ 63) : N / 2 ^ at' % 2 ^ got % 2 ^ 64 + N / 2 ^ (8 * ((at' + got) / 8)) % 2 ^ 8 / 2 ^ ((at' + got) % 8) % 2 ^ (64 - got) * 2 ^ got =
    N / 2 ^ at' % 2 ^ (got + (8 - (at' + got) % 8)) % 2 ^ 64 := by
  have hlo : N / 2 ^ at' % 2 ^ got < 2 ^ got := Nat.mod_lt _ (Nat.two_pow_pos _)
  have hp : (2 : Nat) ^ 64 = 2 ^ got * 2 ^ (64 - got) := by rw [← Nat.pow_add, show got + (64 - got) = 64 from by omega]
  have hle : (2 : Nat) ^ got ≤ 2 ^ 64 := Nat.pow_le_pow_right (by decide) (by omega)
  rw [byte_shr _ _ _ (by omega), show 8 * ((at' + got) / 8) + (at' + got) % 8 = at' + got from by omega, ← get_step N at' got]
  generalize N / 2 ^ (at' + got) % 2 ^ (8 - (at' + got) % 8) = x
  generalize N / 2 ^ at' % 2 ^ got = V at *
  rw [Nat.mod_eq_of_lt (show V < 2 ^ 64 from by omega), hp, Nat.mod_mul, Nat.add_mul_mod_self_right, Nat.mod_eq_of_lt hlo, Nat.add_mul_div_right _ _ (Nat.two_pow_pos _), Nat.div_eq_of_lt hlo, Nat.zero_add, Nat.mul_comm]
theorem mask_low (V k : Nat) (hk : k ≤ 64) (hV : V < 2 ^ 64) : bits .and .u64 (V : Int) (IntKind.u64.wrap (IntKind.u64.wrap (2 ^ k) - 1)) = ((V % 2 ^ k : Nat) : Int) := by
  rw [show (2 : Nat) ^ 64 = 18446744073709551616 from by decide] at hV
  have hp := Nat.two_pow_pos k
  have e0 : ((2 : Int) ^ k) = ((2 ^ k : Nat) : Int) := by push_cast; rfl
  have e : IntKind.u64.wrap (IntKind.u64.wrap (2 ^ k) - 1) = ((2 ^ k - 1 : Nat) : Int) := by
    rw [e0, IntKind.wrap_u64, IntKind.wrap_u64]
    by_cases h : k = 64
    · subst h; decide
    · have : 2 ^ k ≤ 2 ^ 63 := Nat.pow_le_pow_right (by decide) (by omega)
      rw [show (2 : Nat) ^ 63 = 9223372036854775808 from by decide] at this
      generalize 2 ^ k = p at *
      omega
  have hm : 2 ^ k - 1 < 18446744073709551616 := by
    have : 2 ^ k ≤ 2 ^ 64 := Nat.pow_le_pow_right (by decide) hk
    rw [show (2 : Nat) ^ 64 = 18446744073709551616 from by decide] at this
    omega
  rw [e, u64_and_nat V _ hV hm, Nat.and_two_pow_sub_one_eq_mod]
theorem get_low (N a got k : Nat) (h : k ≤ got) (hk : k ≤ 64) : N / 2 ^ a % 2 ^ got % 2 ^ 64 % 2 ^ k = N / 2 ^ a % 2 ^ k := by
  rw [Nat.mod_mod_of_dvd _ (Nat.pow_dvd_pow 2 hk), Nat.mod_mod_of_dvd _ (Nat.pow_dvd_pow 2 h)]
end Go.Proofs.Yteodifbbgohkpaa
