/- The statements' own makers: valid values of a column, lists of values compared, a column. -/
import Derived.Test.YtjbkeipagdmlpaaKval
import Derived.Test.YtjbkeipagdmlpaaVlsM
import Derived.Test.YtjbkeipagdmlpaaValV
namespace Go.CK
open Go.RowKit Go.VB Go.VS Go.VL Go.KV Go.Proofs.Ytjbkeipagdmlpaa
/-- Values of the call's own, at most 39, each valid for the column. -/
def KvP (e : TypeId) (ty : Int) (nu : Bool) (w : World) : Ending → World → Prop := fun en w' =>
  ∃ v l, en = .returned v ∧ OwnL e w' w.heap.size v l ∧ l.length ≤ 39 ∧ (∀ x ∈ l, chkV ty nu x = 0) ∧ (∀ x ∈ l, -9223372036854775808 ≤ x.n ∧ x.n ≤ 9223372036854775807) ∧ Below w.heap.size w w'
theorem KvP.mk {e : TypeId} {ty : Int} {nu : Bool} {w w' : World} {x v : Value} {l : List Vl} (hx : x = v) (ho : OwnL e w' w.heap.size v l) (hl : l.length ≤ 39) (hc : ∀ x ∈ l, chkV ty nu x = 0) (hb : ∀ x ∈ l, -9223372036854775808 ≤ x.n ∧ x.n ≤ 9223372036854775807) (hw : Below w.heap.size w w') : KvP e ty nu w (.returned x) w' := ⟨v, l, by rw [hx], ho, hl, hc, hb, hw⟩
theorem own_src {e : TypeId} {w0 w : World} {B g base : Nat} {v sv : Value} {zl : List Int} {l : List Vl} (hs : Src w0 w B g sv zl) (h : OwnL e w0 base v l) (hg : g < base) : OwnL e w base v l := by
  refine World.ownsRow.kept (row := some g) h ⟨hs.gb.os, hs.gb.tape, hs.gb.output, hs.gb.size, fun k hk hne => hs.gb.block k hk (fun e0 => hne (by rw [e0]))⟩ (.inr fun e0 => ?_)
  have := (OwnL.lt h g e0).1
  omega
theorem bd_wf {n : Int} (h : (Lit.int .i64 n).wf = true) : -9223372036854775808 ≤ n ∧ n ≤ 9223372036854775807 := bounds_i64 h
theorem okT_pick (t : Int) : okT (1 + pickN t 5) = true := by
  obtain ⟨h1, h2⟩ := pickN_bd t (n := 5) (by omega)
  exact decide_eq_true (by omega)
theorem pick_ty (t : Int) : 1 ≤ 1 + pickN t 5 ∧ 1 + pickN t 5 ≤ 5 := by
  obtain ⟨h1, h2⟩ := pickN_bd t (n := 5) (by omega)
  omega
theorem all_snoc {p : Vl → Prop} {l : List Vl} {x : Vl} (h : ∀ y ∈ l, p y) (hx : p x) : ∀ y ∈ l ++ [x], p y := by
  intro y hy
  rcases List.mem_append.1 hy with hy | hy
  · exact h y hy
  · rw [List.mem_singleton.1 hy]; exact hx
end Go.CK
namespace Go.Proofs.Ytjbkeipagdmlpaa
open Go.RowKit Go.VB Go.VS Go.VL Go.CK Go.KV
set_option maxRecDepth 100000 in
set_option maxHeartbeats 1000000 in
theorem same_v_eq (x y : Value) (l : List Vl) (w : World) (hx : RdL w w.heap.size x l) (hy : RdL w w.heap.size y l) : Calls Try.prog 52 #[x, y] w (RetB (.bool true) w) := by
  obtain ⟨A, c, _, rfl, rfl, hc1, hc2⟩ := hx.bds
  obtain ⟨A', c', _, rfl, rfl, hd1, hd2⟩ := hy.bds
  have HX := Lib.hid hx; have HY := Lib.hid hy; clear hx hy
  go_enter Try.func52, Try.ntmps52
  go_wp2
  go_loopw [13] (fun i wr => ∃ j : Nat, i = .int .i64 j ∧ j ≤ l.length ∧ Below w.heap.size w wr) (fun i _ => l.length - (intOf i).toNat)
  case atStart => exact ⟨0, rfl, Nat.zero_le _, Below.refl _ _⟩
  case round =>
    obtain ⟨j, rfl, hj, hbel⟩ := hrel
    by_cases hlt : j < l.length
    · have hlj : l[j]? = some l[j] := List.getElem?_eq_getElem hlt
      obtain ⟨ad, rfl, _, q0, q1, q2⟩ := (HX.out.below hbel).at hlj
      obtain ⟨ad', rfl, _, p0, p1, p2⟩ := (HY.out.below hbel).at hlj
      clear hlj
      generalize l[j] = V at q0 q1 q2 p0 p1 p2
      obtain ⟨vb, vn, vs⟩ := V
      simp only at q0 q1 q2 p0 p1 p2
      go_wp2_with fail
      go_region
      go_wp2_with fail
      go_roundw
      case rel => exact ⟨j + 1, by go_num, hlt, hbel.drew⟩
      case measure => simp [intOf] <;> omega
    · go_wp2
      go_ret
      exact RetB.mk rfl hbel
end Go.Proofs.Ytjbkeipagdmlpaa
