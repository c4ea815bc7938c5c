/- Numbers of variable length: the plain lists and numbers behind the walks. -/
import Derived.Test.YtnmlajmaffiigaaGreatDoorGa
namespace Go.VarM
open Go.RowKit Go.VB

/-- the encoding of a number -/
def putL (n : Nat) : List UInt8 :=
  if n < 128 then [UInt8.ofNat n] else UInt8.ofNat (n % 128 + 128) :: putL (n / 128)
termination_by n
decreasing_by omega
theorem putL_lt {n : Nat} (h : n < 128) : putL n = [UInt8.ofNat n] := by rw [putL]; simp [h]
theorem putL_ge {n : Nat} (h : ¬ n < 128) : putL n = UInt8.ofNat (n % 128 + 128) :: putL (n / 128) := by rw [putL]; simp [h]
theorem putL_len {n : Nat} : ∀ k, n < 128 ^ k → 0 < k → (putL n).length ≤ k := by
  intro k
  induction k generalizing n with
  | zero => intro _ h; omega
  | succ k ih =>
    intro h _
    by_cases hn : n < 128
    · rw [putL_lt hn]; simp
    · rw [putL_ge hn]
      have hk : 0 < k := by
        rcases Nat.eq_zero_or_pos k with h0 | h0
        · subst h0; simp at h; omega
        · exact h0
      have : n / 128 < 128 ^ k := by rw [Nat.div_lt_iff_lt_mul (by omega)]; rw [Nat.pow_succ] at h; exact h
      have := ih this hk
      simp; omega
theorem putL_len10 {n : Nat} (h : n < 18446744073709551616) : (putL n).length ≤ 10 := putL_len 10 (by simpa using Nat.lt_of_lt_of_le h (by decide)) (by decide)
theorem putL_pos (n : Nat) : 0 < (putL n).length := by
  by_cases h : n < 128
  · rw [putL_lt h]; simp
  · rw [putL_ge h]; simp

theorem and127 {x : Nat} (h : x < 18446744073709551616) : bits .and .u64 (x : Int) 127 = (x : Int) % 128 := by
  have := u64_and_nat x 127 h (by omega)
  rw [nat_mask7] at this; exact this
theorem or128 (x : Nat) : bits .or .u8 ((x : Int) % 128) 128 = (x : Int) % 128 + 128 := by
  have := u8_or_nat (x % 128) 128 (by omega) (by omega)
  rw [Nat.or_comm, nat_join 7 128 (x % 128) (by decide) (by omega), Nat.add_comm] at this; exact this
/-! reading -/
/-- The number of bytes up to the first one below 128, within the first f. -/
def sizeL : Nat → List UInt8 → Option Nat
  | 0, _ => none
  | _ + 1, [] => none
  | f + 1, b :: r => if b.toNat < 128 then some 1 else (sizeL f r).map (· + 1)
def joinL : List UInt8 → Nat
  | [] => 0
  | b :: r => b.toNat % 128 + 128 * joinL r
/-- number, bytes read, error -/
def getL (l : List UInt8) : Nat × Nat × Nat := match sizeL 10 l with
  | none => if l.length < 10 then (0, 0, 10) else (0, 0, 8)
  | some n => if n = 10 ∧ 1 < (l.getD (n - 1) 0).toNat then (0, 0, 8) else if 1 < n ∧ (l.getD (n - 1) 0).toNat = 0 then (0, 0, 2) else (joinL (l.take n), n, 0)
/-- what Get returns -/
def getR (s : ByteArray) (i : Int) : Nat × Int × Nat :=
  if i < 0 ∨ (s.size : Int) < i then (0, 0, 4)
  else if (getL (s.data.toList.drop i.toNat)).2.2 = 0 then ((getL (s.data.toList.drop i.toNat)).1, i + (getL (s.data.toList.drop i.toNat)).2.1, 0)
  else (0, 0, (getL (s.data.toList.drop i.toNat)).2.2)

/-! signs -/
/-- x xor all ones. -/
theorem nat_xor_ones {x : Nat} (h : x < 18446744073709551616) : x ^^^ 18446744073709551615 = 18446744073709551615 - x := by
  have e : (BitVec.ofNat 64 x ^^^ BitVec.allOnes 64).toNat = 18446744073709551615 - x := by
    rw [BitVec.xor_allOnes, BitVec.toNat_not, BitVec.toNat_ofNat, Nat.mod_eq_of_lt (by omega)]
  rw [BitVec.toNat_xor, BitVec.toNat_ofNat, BitVec.toNat_allOnes, Nat.mod_eq_of_lt (by omega)] at e
  exact e
theorem u64_xor_ones {x : Nat} (h : x < 18446744073709551616) : bits .xor .u64 (x : Int) 18446744073709551615 = 18446744073709551615 - (x : Int) := by
  have := u64_xor_nat x 18446744073709551615 h (by omega)
  rw [nat_xor_ones h] at this
  have e : ((18446744073709551615 - x : Nat) : Int) = 18446744073709551615 - (x : Int) := by omega
  rw [← e]; exact this
theorem u64_xor_zero {x : Nat} (h : x < 18446744073709551616) : bits .xor .u64 (x : Int) 0 = (x : Int) := by
  have := u64_xor_nat x 0 h (by omega)
  rw [Nat.xor_zero] at this; exact this
def zigN (a : Int) : Int := if a < 0 then -2 * a - 1 else 2 * a
theorem zig_eq {a : Int} (h1 : -9223372036854775808 ≤ a) (h2 : a ≤ 9223372036854775807) :
    bits .xor .u64 (IntKind.u64.wrap (IntKind.u64.wrap a * 2)) (IntKind.u64.wrap (a / 9223372036854775808)) = zigN a := by
  unfold zigN
  by_cases h : a < 0
  · rw [if_pos h, show a / 9223372036854775808 = -1 from by omega, show IntKind.u64.wrap (-1) = 18446744073709551615 from by rw [IntKind.wrap_u64]; rfl]
    have e : IntKind.u64.wrap (IntKind.u64.wrap a * 2) = ((a * 2 + 18446744073709551616).toNat : Int) := by rw [IntKind.wrap_u64, IntKind.wrap_u64]; omega
    rw [e, u64_xor_ones (by omega)]; omega
  · rw [if_neg h, show a / 9223372036854775808 = 0 from by omega, show IntKind.u64.wrap 0 = 0 from by rw [IntKind.wrap_u64]; rfl]
    have e : IntKind.u64.wrap (IntKind.u64.wrap a * 2) = ((a * 2).toNat : Int) := by rw [IntKind.wrap_u64, IntKind.wrap_u64]; omega
    rw [e, u64_xor_zero (by omega)]; omega
theorem zig_bd {a : Int} (h1 : -9223372036854775808 ≤ a) (h2 : a ≤ 9223372036854775807) : 0 ≤ zigN a ∧ zigN a ≤ 18446744073709551615 := by unfold zigN; split <;> omega
/-! what is put is read back -/
end Go.VarM

namespace Go.Proofs.YtnmlajmaffiigaaGreatDoor
open Go.RowKit Go.VB Go.VarM

theorem Tryz.infoU8 : (Tryz.prog.info? 5).map (fun i => (i.zero, i.size, i.bytes)) = some (some (.int .u8 0), 1, 1) := by kernel_rfl

set_option maxRecDepth 100000 in
set_option maxHeartbeats 400000 in
theorem vput_any (n : Nat) (w : World) (h : n < 18446744073709551616) :
    Calls Tryz.prog 83 #[.int .u64 (n : Int)] w (RetB (.string (str (putL n))) w) := by
  have hmk : ∀ w, (Instr.makeSlice 41 (.int .i64 0) (.int .i64 10)).run Tryz.prog w = .ok (.slice (some ⟨w.heap.size, 0, none⟩) 0 10) (w.alloc (.cells (Array.replicate 10 (.int .u8 0)) 5)) := fun _ => by kernel_rfl
  have h10 := putL_len10 h
  go_enter Tryz.func83, Tryz.ntmps83
  go_wp2
  go_loopw [0, 3] (fun v enc wr => ∃ (x : Nat) (done : List UInt8), v = .int .u64 x ∧ x < 18446744073709551616 ∧ OwnB 5 wr w.heap.size enc done ∧ done ++ putL x = putL n ∧ Below w.heap.size w wr)
    (fun v _ _ => (intOf v).toNat)
  case atStart => exact ⟨n, [], rfl, h, World.ownsRow_made w _ 10 (Nat.le_refl _) (by decide) (by simp), rfl, (Below.refl _ _).alloc (Nat.le_refl _) _⟩
  case round =>
    obtain ⟨x, done, rfl, hx, hown, hput, hbel⟩ := hrel
    have hle : done.length ≤ 10 := by have := congrArg List.length hput; rw [List.length_append] at this; omega
    have hsz := hbel.size
    clear hmk
    by_cases hlt : x < 128
    · go_wp2_with (at_builtin; refine wpl_app1 rfl _ _ 41 rfl w.heap.size 5 Tryz.underlying41 Tryz.infoU8 _ done rfl (hown.alloc _) wr.heap.size 1 _ rfl (cell_new1 _ _ _) (by omega) (by omega) (by omega) (by simp; omega) ?_)
      intro v' w' hown' hb'
      have hcv := run_string_of_own (P := Tryz.prog) 41 9 5 Tryz.underlying41 Tryz.underlying5 Tryz.underlying9 hown'
      go_wp2
      go_ret
      refine RetB.mk ?_ (hbel.trans (((Below.refl _ _).alloc (by omega) _).trans hb'))
      show Value.string _ = _
      rw [← hput, putL_lt hlt]
    · have e1 := and127 hx
      have e2 := or128 x
      go_wp2_with (at_builtin; refine wpl_app1 rfl _ _ 41 rfl w.heap.size 5 Tryz.underlying41 Tryz.infoU8 _ done rfl (hown.alloc _) wr.heap.size 1 _ rfl (cell_new1 _ _ _) (by omega) (by omega) (by omega) (by simp; omega) ?_)
      intro v' w' hown' hb'
      go_wp2
      go_roundw
      case rel =>
        refine ⟨x / 128, _, by go_num, by omega, hown', ?_, hbel.trans (((Below.refl _ _).alloc (by omega) _).trans hb')⟩
        rw [← hput, putL_ge hlt, List.append_assoc]
        have : (((x : Int) % 128 + 128).toNat) = x % 128 + 128 := by omega
        rw [this]; rfl
      case measure => simp [intOf] <;> omega

end Go.Proofs.YtnmlajmaffiigaaGreatDoor

namespace Go.Proofs.YtnmlajmaffiigaaGreatDoor
open Go.RowKit Go.VB Go.VarM
end Go.Proofs.YtnmlajmaffiigaaGreatDoor

namespace Go.VarM
open Go.RowKit Go.VB
end Go.VarM
namespace Go.Proofs.YtnmlajmaffiigaaGreatDoor
open Go.RowKit Go.VB Go.VarM
set_option maxHeartbeats 400000 in
theorem vzig_any (a : Int) (w : World) (h1 : -9223372036854775808 ≤ a) (h2 : a ≤ 9223372036854775807) :
    Calls Tryz.prog 159 #[.int .i64 a] w (Ret (.int .u64 (zigN a)) w) := by
  have h := Lib.hid (zig_eq h1 h2)
  go_enter Tryz.func159, Tryz.ntmps159
  go_wp2
  go_ret
  refine Ret.mk ?_
  rw [← h.out]; rfl
end Go.Proofs.YtnmlajmaffiigaaGreatDoor
