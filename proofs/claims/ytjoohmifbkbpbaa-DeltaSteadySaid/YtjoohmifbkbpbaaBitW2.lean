/- The walks over package bitpack and its reference: packing. -/
import Derived.Test.YtjoohmifbkbpbaaBitW1
import Derived.Test.YtjoohmifbkbpbaaMem
import Derived.RegionTactic
import Derived.ChangeAlike
namespace Go.Proofs.Ytjoohmifbkbpbaa
open Go.RowKit Go.VB Go.VarM Go.BP
theorem Try.infoU64 : (Try.prog.info? 44).map (fun i => (i.zero, i.size, i.bytes)) = some (some (.int .u64 0), 1, 8) := by kernel_rfl
theorem Try.infoB8 : (Try.prog.info? 5).map (fun i => (i.zero, i.size, i.bytes)) = some (some (.int .u8 0), 1, 1) := by kernel_rfl

theorem or_put {B y low : Nat} (hB : B < 2 ^ low) (hl : low < 8) : 
    bits .or .u8 (B : Int) (IntKind.u64.wrap ((y : Int) * 2 ^ low) % 256) = ((B + y % 2 ^ (8 - low) * 2 ^ low : Nat) : Int) ∧ B + y % 2 ^ (8 - low) * 2 ^ low < 2 ^ 8 := by
  have hp : (2 : Nat) ^ 8 = 2 ^ (8 - low) * 2 ^ low := by rw [← Nat.pow_add, show 8 - low + low = 8 from by omega]
  have hx : y % 2 ^ (8 - low) < 2 ^ (8 - low) := Nat.mod_lt _ (Nat.two_pow_pos _)
  have hlt : y % 2 ^ (8 - low) * 2 ^ low + B < 2 ^ 8 := by
    rw [hp]
    have : (y % 2 ^ (8 - low) + 1) * 2 ^ low ≤ 2 ^ (8 - low) * 2 ^ low := Nat.mul_le_mul_right _ hx
    rw [Nat.add_mul] at this
    omega
  have e : IntKind.u64.wrap ((y : Int) * 2 ^ low) % 256 = ((y % 2 ^ (8 - low) * 2 ^ low : Nat) : Int) := by
    have e0 : ((y : Int) * 2 ^ low) = ((y * 2 ^ low : Nat) : Int) := by push_cast; rfl
    rw [e0, IntKind.wrap_u64, ← put_split y low (by omega)]
    generalize y * 2 ^ low = z
    omega
  rw [show (2 : Nat) ^ 8 = 256 from by decide] at hlt hp ⊢
  refine ⟨?_, by omega⟩
  rw [e, u8_or_nat B _ (by omega) (by omega), Nat.or_comm, nat_join low _ B (Nat.mul_mod_left _ _) hB, Nat.add_comm]
theorem u8_set {w : World} {a : Addr} {x y : Int} (h : x = y) : w.setCell a (.int .u8 x) = w.setCell a (.int .u8 y) := by rw [h]

/-- The bytes have the bits of v from bit at' on. -/
def PutPost (base g c : Nat) (bs : List Nat) (N : Nat) (w : World) : Ending → World → Prop := fun e w' => e = .returned (.tuple #[]) ∧
  ∃ bs', RowN .u8 5 w' base g c bs' ∧ bs'.length = bs.length ∧ (∀ x ∈ bs', x < 2 ^ 8) ∧ big 8 bs' = N ∧ Below base w w'
set_option maxRecDepth 100000 in
set_option maxHeartbeats 1000000 in
theorem putbits_any (v at' base g c : Nat) (bs : List Nat) (w : World) (hv : v < 2 ^ 64) (hat : at' ≤ 900000) (hown : RowN .u8 5 w base g c bs) (hbs : ∀ x ∈ bs, x < 2 ^ 8) (hl : bs.length ≤ 100000)
    (hlo : big 8 bs < 2 ^ at') (hhi : big 8 bs + v * 2 ^ at' < 2 ^ (8 * bs.length)) :
    Calls Try.prog 50 #[.slice (some ⟨g, 0, none⟩) bs.length c, .int .i64 at', .int .u64 v] w (PutPost base g c bs (big 8 bs + v * 2 ^ at') w) := by
  have hbase := hown.lt.1
  generalize hN : big 8 bs + v * 2 ^ at' = N at hhi ⊢
  have HN := Lib.hid hN; clear hN
  go_enter Try.func50, Try.ntmps50
  go_wp2
  go_loopw [1, 2] (fun a x wr => ∃ (p y : Nat) (cs : List Nat), a = .int .i64 p ∧ x = .int .u64 y ∧ y < 2 ^ 64 ∧ p ≤ 1000000 ∧ RowN .u8 5 wr base g c cs ∧ cs.length = bs.length ∧ (∀ x ∈ cs, x < 2 ^ 8) ∧
    big 8 cs < 2 ^ p ∧ big 8 cs + y * 2 ^ p = N ∧ Below base w wr)
    (fun _ x _ => (intOf x).toNat)
  case atStart => exact ⟨at', v, bs, rfl, rfl, hv, by omega, hown, rfl, hbs, hlo, HN.out, Below.refl _ _⟩
  case round =>
    obtain ⟨p, y, cs, rfl, rfl, hy, hp, hrow, hlen, hcs, hlo', hsum, hbel⟩ := hrel
    have HS := Lib.hid hsum; have HL := Lib.hid hlen; clear hsum hlen
    by_cases hz : 0 < y
    · have hd : ((y : Int) != 0) = true := by simp; omega
      have hin : p / 8 < cs.length := by
        have h1 : 2 ^ p ≤ y * 2 ^ p := Nat.le_mul_of_pos_left _ hz
        have h2 : 2 ^ p < 2 ^ (8 * bs.length) := by have := HS.out; omega
        have h3 := (Nat.pow_lt_pow_iff_right (a := 2) (by decide)).1 h2
        rw [HL.out]; omega
      have hin2 : p / 8 < bs.length := by rw [← HL.out]; exact hin
      have hc := hrow.cell (p / 8) hin
      have hf := hrow.frozen (p / 8)
      have hpp : p = 8 * (p / 8) + p % 8 := by omega
      have hBl : cs.getD (p / 8) 0 < 2 ^ (p % 8) := digit_lt hcs (by rw [← hpp]; exact hlo')
      obtain ⟨hor, hfit⟩ := or_put (y := y) hBl (Nat.mod_lt p (by decide))
      have HO := Lib.hid (u8_set (w := wr) (a := ⟨g, p / 8, none⟩) hor); clear hor
      have hstep := put_step y (big 8 cs) p (p / 8) (p % 8) hpp
      have hset := big_set (w := 8) hin (y % 2 ^ (8 - p % 8) * 2 ^ (p % 8))
      have HT := Lib.hid hstep; have HE := Lib.hid hset; have HP := Lib.hid hpp; clear hstep hset hpp
      have hrow' := hrow.store (p / 8) (cs.getD (p / 8) 0 + y % 2 ^ (8 - p % 8) * 2 ^ (p % 8))
      have hlo2 : big 8 cs + y % 2 ^ (8 - p % 8) * 2 ^ (p % 8) * 2 ^ (8 * (p / 8)) < 2 ^ (p + (8 - p % 8)) := by
        have h1 : y % 2 ^ (8 - p % 8) * 2 ^ (p % 8) * 2 ^ (8 * (p / 8)) = y % 2 ^ (8 - p % 8) * 2 ^ p := by
          rw [Nat.mul_assoc, ← Nat.pow_add]; congr 2; omega
        have h2 : (y % 2 ^ (8 - p % 8) + 1) * 2 ^ p ≤ 2 ^ (8 - p % 8) * 2 ^ p := Nat.mul_le_mul_right _ (Nat.mod_lt _ (Nat.two_pow_pos _))
        rw [h1, Nat.pow_add, Nat.mul_comm (2 ^ p)]
        rw [Nat.add_mul] at h2
        omega
      have hdiv : y / 2 ^ (8 - p % 8) < y := Nat.div_lt_self hz (Nat.one_lt_two_pow (by omega))
      generalize hB : cs.getD (p / 8) 0 = B at *
      have HB := Lib.hid hB; clear hB
      go_wp2_with fail
      go_region
      go_wp2_with fail
      clear hc hf
      go_roundw
      case rel =>
        refine ⟨p + (8 - p % 8), y / 2 ^ (8 - p % 8), cs.set (p / 8) (B + y % 2 ^ (8 - p % 8) * 2 ^ (p % 8)), vint (by omega), vint (by push_cast; rfl), by omega, by omega, ?_, by rw [List.length_set]; exact HL.out, set_lt hcs hfit, ?_, ?_, ?_⟩
        · rw [HO.out]; exact hrow'.drew
        · rw [HE.out]; exact hlo2
        · rw [HE.out, HT.out]; exact HS.out
        · exact (hbel.setCell hbase _).drew
      case measure =>
        have e : ((y : Int) / 2 ^ (8 - p % 8)) = ((y / 2 ^ (8 - p % 8) : Nat) : Int) := by push_cast; rfl
        rw [e]
        simp only [intOf]
        omega
    · have hz0 : y = 0 := by omega
      subst hz0
      go_wp2_with fail
      go_end0
      refine ⟨rfl, cs, hrow, HL.out, hcs, ?_, hbel⟩
      have := HS.out
      omega
end Go.Proofs.Ytjoohmifbkbpbaa
