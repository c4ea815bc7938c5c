/- The walks over Unpack of package bitpack and of its reference. -/
import Derived.Test.YteodifbbgohkpaaBitW4
namespace Go.BP
open Go.RowKit Go.VB
theorem digs_set {k n j N : Nat} (h : j < n) : (digs k j N ++ List.replicate (n - j) 0).set j (N / 2 ^ (k * j) % 2 ^ k) = digs k (j + 1) N ++ List.replicate (n - (j + 1)) 0 := by
  obtain ⟨d, rfl⟩ : ∃ d, n = j + 1 + d := ⟨n - (j + 1), by omega⟩
  rw [List.set_append, if_neg (by rw [digs_len]; omega), digs_len, Nat.sub_self, show j + 1 + d - j = d + 1 from by omega, List.replicate_succ, List.set_cons_zero, digs_succ,
    show j + 1 + d - (j + 1) = d from by omega, List.append_assoc]
  rfl
theorem bit_of_byte (s : ByteArray) (j : Nat) : bN s (j / 8) / 2 ^ (j % 8) % 2 = num s / 2 ^ j % 2 := by
  rw [← num_byte, byte_shr _ _ _ (by omega), show 8 * (j / 8) + j % 8 = j from by omega]
  exact Nat.mod_mod_of_dvd _ (by
    have : (2 : Nat) ^ 1 ∣ 2 ^ (8 - j % 8) := Nat.pow_dvd_pow 2 (by omega)
    simpa using this)
theorem mod_succ (N j : Nat) : N % 2 ^ (j + 1) = N % 2 ^ j + 2 ^ j * (N / 2 ^ j % 2) := by rw [Nat.pow_succ, Nat.mod_mul]
theorem bit_big {N j m : Nat} (h : N / 2 ^ j % 2 = 1) (hm : m ≤ j) : ¬ N < 2 ^ m := by
  intro hlt
  have h1 : N < 2 ^ j := Nat.lt_of_lt_of_le hlt (Nat.pow_le_pow_right (by decide) hm)
  rw [Nat.div_eq_of_lt h1] at h
  simp at h
theorem or_low {L b q k : Nat} (hL : L < 2 ^ q) (hb : b ≤ 1) (hq : q < k) (hk : k ≤ 64) : bits .or .u64 (L : Int) (IntKind.u64.wrap ((b : Int) * 2 ^ q)) = ((L + b * 2 ^ q : Nat) : Int) ∧ L + b * 2 ^ q < 2 ^ k := by
  have hp : 2 ^ q + 2 ^ q ≤ 2 ^ k := by
    have : 2 ^ (q + 1) ≤ 2 ^ k := Nat.pow_le_pow_right (by decide) (by omega)
    rw [Nat.pow_succ] at this; omega
  have hp64 : 2 ^ k ≤ 2 ^ 64 := Nat.pow_le_pow_right (by decide) hk
  rw [show (2 : Nat) ^ 64 = 18446744073709551616 from by decide] at hp64
  have hbq : b * 2 ^ q ≤ 1 * 2 ^ q := Nat.mul_le_mul_right _ hb
  refine ⟨?_, by omega⟩
  have e : IntKind.u64.wrap ((b : Int) * 2 ^ q) = ((b * 2 ^ q : Nat) : Int) := by
    have e0 : ((b : Int) * 2 ^ q) = ((b * 2 ^ q : Nat) : Int) := by push_cast; rfl
    rw [e0, IntWalk.u64_in _ ⟨by omega, by omega⟩]
  rw [e, u64_or_nat L _ (by omega) (by omega), Nat.or_comm, nat_join q _ L (Nat.mul_mod_left _ _) hL, Nat.add_comm]
end Go.BP
namespace Go.Proofs.Yteodifbbgohkpaa
open Go.RowKit Go.VB Go.VarM Go.BP
end Go.Proofs.Yteodifbbgohkpaa
