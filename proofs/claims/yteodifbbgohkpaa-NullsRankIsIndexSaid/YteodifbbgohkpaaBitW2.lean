/- The walks over package bitpack and its reference: packing. -/
import Derived.Test.YteodifbbgohkpaaBitW1
import Derived.Test.YteodifbbgohkpaaMem
import Derived.RegionTactic
import Derived.ChangeAlike
namespace Go.Proofs.Yteodifbbgohkpaa
open Go.RowKit Go.VB Go.VarM Go.BP
theorem Try.infoB8 : (Try.prog.info? 5).map (fun i => (i.zero, i.size, i.bytes)) = some (some (.int .u8 0), 1, 1) := by kernel_rfl

theorem or_put {B y low : Nat} (hB : B < 2 ^ low) (hl : low < 8) : 
    bits .or .u8 (B : Int) (IntKind.u64.wrap ((y : Int) * 2 ^ low) % 256) = ((B + y % 2 ^ (8 - low) * 2 ^ low : Nat) : Int) ∧ B + y % 2 ^ (8 - low) * 2 ^ low < 2 ^ 8 := by
  have hp : (2 : Nat) ^ 8 = 2 ^ (8 - low) * 2 ^ low := by rw [← Nat.pow_add, show 8 - low + low = 8 from by omega]
  have hx : y % 2 ^ (8 - low) < 2 ^ (8 - low) := Nat.mod_lt _ (Nat.two_pow_pos _)
  have hlt : y % 2 ^ (8 - low) * 2 ^ low + B < 2 ^ 8 := by
    rw [hp]
    have : (y % 2 ^ (8 - low) + 1) * 2 ^ low ≤ 2 ^ (8 - low) * 2 ^ low := Nat.mul_le_mul_right _ hx
    rw [Nat.add_mul] at this
    omega
  have e : IntKind.u64.wrap ((y : Int) * 2 ^ low) % 256 = ((y % 2 ^ (8 - low) * 2 ^ low : Nat) : Int) := by
    have e0 : ((y : Int) * 2 ^ low) = ((y * 2 ^ low : Nat) : Int) := by push_cast; rfl
    rw [e0, IntKind.wrap_u64, ← put_split y low (by omega)]
    generalize y * 2 ^ low = z
    omega
  rw [show (2 : Nat) ^ 8 = 256 from by decide] at hlt hp ⊢
  refine ⟨?_, by omega⟩
  rw [e, u8_or_nat B _ (by omega) (by omega), Nat.or_comm, nat_join low _ B (Nat.mul_mod_left _ _) hB, Nat.add_comm]
theorem u8_set {w : World} {a : Addr} {x y : Int} (h : x = y) : w.setCell a (.int .u8 x) = w.setCell a (.int .u8 y) := by rw [h]

end Go.Proofs.Yteodifbbgohkpaa
