/- The walks over package wide: cutLastDigit. -/
import Derived.Test.YtollobhkdbodlaaWidW1
import Derived.Laws.BitsAllLaws
namespace Go.WD
open Go.RowKit Go.VB
theorem hi_nat {u : Nat} (h : u < 340282366920938463463374607431768211456) : IntKind.u64.wrap (hi (u : Int)) = ((u / 18446744073709551616 : Nat) : Int) := by
  rw [IntKind.wrap_u64]; unfold hi wrap64; omega
theorem lo_nat (u : Nat) : lo (u : Int) = ((u % 18446744073709551616 : Nat) : Int) := by unfold lo; omega
theorem join32 {x y : Nat} (hx : x < 4294967296) (hy : y < 4294967296) : bits .or .u64 ((x : Int) * 4294967296) (y : Int) = ((x * 4294967296 + y : Nat) : Int) := by
  have h := u64_or_nat (x * 4294967296) y (by omega) (by omega)
  rw [nat_join 32 (x * 4294967296) y (by omega) (by omega)] at h
  rw [show ((x * 4294967296 : Nat) : Int) = (x : Int) * 4294967296 from Int.natCast_mul x 4294967296] at h
  exact h
theorem or_a {H L : Nat} (hL : L < 18446744073709551616) : bits .or .u64 ((H : Int) % 10 * 4294967296) ((L : Int) / 4294967296) = ((H % 10 * 4294967296 + L / 4294967296 : Nat) : Int) := by
  have h := join32 (x := H % 10) (y := L / 4294967296) (by omega) (by omega)
  rw [show ((H % 10 : Nat) : Int) = (H : Int) % 10 from by omega, show ((L / 4294967296 : Nat) : Int) = (L : Int) / 4294967296 from by omega] at h
  exact h
theorem or_b {A M : Nat} (hM : M < 4294967296) : bits .or .u64 ((A : Int) % 10 * 4294967296) (M : Int) = ((A % 10 * 4294967296 + M : Nat) : Int) := by
  have h := join32 (x := A % 10) (y := M) (by omega) hM
  rw [show ((A % 10 : Nat) : Int) = (A : Int) % 10 from by omega] at h
  exact h
theorem or_c {A B : Nat} (hA : A < 42949672960) (hB : B < 42949672960) : bits .or .u64 ((A : Int) / 10 * 4294967296) ((B : Int) / 10) = ((A / 10 * 4294967296 + B / 10 : Nat) : Int) := by
  have h := join32 (x := A / 10) (y := B / 10) (by omega) (by omega)
  rw [show ((A / 10 : Nat) : Int) = (A : Int) / 10 from by omega, show ((B / 10 : Nat) : Int) = (B : Int) / 10 from by omega] at h
  exact h
theorem low32 {x : Nat} (hx : x < 18446744073709551616) : bits .and .u64 (x : Int) 4294967295 = ((x % 4294967296 : Nat) : Int) := by
  have h := u64_and_nat x 4294967295 hx (by omega)
  have e : x &&& 4294967295 = x % 4294967296 := Nat.and_two_pow_sub_one_eq_mod x 32
  rw [e] at h; exact h
theorem cut_math {u H L A B C : Nat} (hH : u / 18446744073709551616 = H) (hL : u % 18446744073709551616 = L) (hA : A = H % 10 * 4294967296 + L / 4294967296) (hB : B = A % 10 * 4294967296 + L % 4294967296) (hC : C = A / 10 * 4294967296 + B / 10) :
    u / 10 = H / 10 * 18446744073709551616 + C ∧ u % 10 = B % 10 ∧ C < 18446744073709551616 := by omega
theorem hi_two {H C : Nat} (hH : H < 9223372036854775808) (hC : C < 18446744073709551616) : hi ((H * 18446744073709551616 + C : Nat) : Int) = (H : Int) ∧ lo ((H * 18446744073709551616 + C : Nat) : Int) = (C : Int) := by
  unfold hi lo wrap64; omega
end Go.WD
namespace Go.Proofs.Ytollobhkdbodlaa
open Go.RowKit Go.VB Go.WD
set_option maxRecDepth 100000 in
set_option maxHeartbeats 1000000 in
theorem wcut_any (u : Nat) (w : World) (hu : u < 340282366920938463463374607431768211456) : Calls Try.prog 28 #[wd (u : Int)] w (RetB (.tuple #[wd ((u / 10 : Nat) : Int), .int .u8 ((48 + u % 10 : Nat) : Int)]) w) := by
  have e1 := hi_nat hu
  have e2 := lo_nat u
  rw [wd_is (u : Int), e2]
  generalize hi (u : Int) = p at *
  have hH : u / 18446744073709551616 < 18446744073709551616 := by omega
  have hL : u % 18446744073709551616 < 18446744073709551616 := Nat.mod_lt _ (by decide)
  generalize gH : u / 18446744073709551616 = H at *
  generalize gL : u % 18446744073709551616 = L at *
  have q1 := or_a (H := H) hL
  obtain ⟨A, gA⟩ : ∃ A, A = H % 10 * 4294967296 + L / 4294967296 := ⟨_, rfl⟩
  rw [← gA] at q1
  have bA : A < 42949672960 := by omega
  have q2 := low32 hL
  have bM : L % 4294967296 < 4294967296 := by omega
  have q3 := or_b (A := A) bM
  obtain ⟨B, gB⟩ : ∃ B, B = A % 10 * 4294967296 + L % 4294967296 := ⟨_, rfl⟩
  rw [← gB] at q3
  have bB : B < 42949672960 := by omega
  have q4 := or_c bA bB
  obtain ⟨C, gC⟩ : ∃ C, C = A / 10 * 4294967296 + B / 10 := ⟨_, rfl⟩
  rw [← gC] at q4
  obtain ⟨r1, r2, bC⟩ := cut_math gH gL gA gB gC
  obtain ⟨t1, t2⟩ := hi_two (H := H / 10) (C := C) (by omega) bC
  rw [wd_is, r1, t1, t2, r2]
  clear gH gL gA gC t1 t2 r1 r2 e2 hu
  generalize L % 4294967296 = M at *
  clear gB
  go_enter Try.func28, Try.ntmps28
  go_wp2
  refine bodyPost_ret (v := .tuple #[.agg #[.int .i64 ((H / 10 : Nat) : Int), .int .u64 (C : Int)], .int .u8 ((48 + B % 10 : Nat) : Int)]) (by simp [results, Try.results28, go_sem]) rfl ?_
  exact RetB.mk rfl (by go_grown)
end Go.Proofs.Ytollobhkdbodlaa
