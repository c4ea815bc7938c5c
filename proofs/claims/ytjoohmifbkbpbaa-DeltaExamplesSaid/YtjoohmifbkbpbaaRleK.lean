/- The statements' own makers: lists with long runs; lists compared; the statements' example. -/
import Derived.Test.YtjoohmifbkbpbaaSrc
import Derived.Test.YtjoohmifbkbpbaaRleW6
import Derived.Test.YtjoohmifbkbpbaaRleW7
namespace Go.RL
open Go.RowKit Go.VB
/-- A list of the call's own, of at most 310 numbers. -/
def RunsP (e : TypeId) (w : World) : Ending → World → Prop := fun en w' => ∃ v l, en = .returned v ∧ OwnV (Value.int .i64) e w' w.heap.size v l ∧ l.length ≤ 310 ∧ I64 l ∧ Below w.heap.size w w'
theorem RunsP.mk {e : TypeId} {w w' : World} {x v : Value} {l : List Int} (hx : x = v) (ho : OwnV (Value.int .i64) e w' w.heap.size v l) (hl : l.length ≤ 310) (hi : I64 l) (hb : Below w.heap.size w w') : RunsP e w (.returned x) w' := ⟨v, l, by rw [hx], ho, hl, hi, hb⟩
end Go.RL
namespace Go.Proofs.Ytjoohmifbkbpbaa
open Go.RowKit Go.VB Go.VarM Go.RL Go.KS
set_option maxRecDepth 100000 in
set_option maxHeartbeats 1000000 in
theorem same_i_eq (x y : Value) (l : List Int) (B : Nat) (w : World) (hx : RdV (Value.int .i64) w B x l) (hy : RdV (Value.int .i64) w B y l) (hB : B ≤ w.heap.size) :
    Calls Try.prog 16 #[x, y] w (RetB (.bool true) w) := by
  obtain ⟨A, c, rfl, hc1, hc2, hx'⟩ := hx
  obtain ⟨A', c', rfl, hd1, hd2, hy'⟩ := hy
  have hx : RdV (Value.int .i64) w B (.slice A l.length c) l := ⟨A, c, rfl, hc1, hc2, hx'⟩
  have hy : RdV (Value.int .i64) w B (.slice A' l.length c') l := ⟨A', c', rfl, hd1, hd2, hy'⟩
  clear hx' hy'
  unfold maxLen at hc2 hd2
  have HX := Lib.hid hx; have HY := Lib.hid hy; clear hx hy
  go_enter Try.func16, Try.ntmps16
  go_wp2
  go_loopw [13] (fun i wr => ∃ j : Nat, i = .int .i64 j ∧ j ≤ l.length ∧ Below w.heap.size w wr) (fun i _ => l.length - (intOf i).toNat)
  case atStart => exact ⟨0, rfl, Nat.zero_le _, Below.refl _ _⟩
  case round =>
    obtain ⟨j, rfl, hj, hbel⟩ := hrel
    by_cases hlt : j < l.length
    · have hlj : l[j]? = some l[j] := List.getElem?_eq_getElem hlt
      obtain ⟨_, _, hv1, _, _, hcx⟩ := HX.out.below (hbel.mono hB)
      cases hv1
      obtain ⟨ad, rfl, _, hgx⟩ := hcx j _ hlj
      obtain ⟨_, _, hv2, _, _, hcy⟩ := HY.out.below (hbel.mono hB)
      cases hv2
      obtain ⟨ad', rfl, _, hgy⟩ := hcy j _ hlj
      clear hcx hcy hlj
      generalize l[j] = V at hgx hgy
      go_wp2_with fail
      go_region
      go_wp2_with fail
      go_roundw
      case rel => exact ⟨j + 1, by go_num, hlt, hbel.drew⟩
      case measure => simp [intOf] <;> omega
    · go_wp2
      go_ret
      exact RetB.mk rfl hbel
end Go.Proofs.Ytjoohmifbkbpbaa
