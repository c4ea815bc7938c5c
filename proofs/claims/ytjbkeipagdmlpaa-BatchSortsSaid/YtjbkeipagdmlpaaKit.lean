/- General words and walks: Pick, Same, posts of lists, infos of types. -/
import Derived.Test.YtjbkeipagdmlpaaArgs
import Derived.RegionTactic
import Derived.ChangeAlike
namespace Go.VB
open Go.RowKit
theorem RetNE.mk {k : IntKind} {e : TypeId} {l : List Nat} {c : Nat} {w w' : World} {x v : Value} (hx : x = .tuple #[v, .int .i64 (c : Int)]) (ho : OwnN k e w' w.heap.size v l) (hb : Below w.heap.size w w') : RetNE k e l c w (.returned x) w' :=
  ⟨v, by rw [hx], ho, hb⟩
theorem RowN.own_at {k : IntKind} {e : TypeId} {w : World} {base g c n : Nat} {l l' : List Nat} (h : RowN k e w base g c l) (hl : l.length = n) (he : l = l') : OwnN k e w base (.slice (some ⟨g, 0, none⟩) n c) l' := by
  subst hl; subst he; exact h
theorem RdN.one (k : IntKind) (w : World) (x m : Nat) (e : TypeId) (hm : 1 ≤ m) (hm2 : m ≤ maxLen) : RdN k (w.alloc (.cells #[.int k (x : Int)] e)) (w.heap.size + 1) (.slice (some ⟨w.heap.size, 0, none⟩) 1 m) [x] :=
  ⟨_, m, rfl, hm, hm2, fun i hi => ⟨_, rfl, Nat.lt_succ_self _, by
    have h0 : i = 0 := by simp at hi; omega
    subst h0
    simp [Addr.add]⟩⟩
theorem RdN.step {k : IntKind} {w w' : World} {v : Value} {l : List Nat} (h : RdN k w w.heap.size v l) (hb : Below w.heap.size w w') : RdN k w' w'.heap.size v l := (h.below hb).more hb.size
theorem RdI.more {k : IntKind} {w : World} {B B' : Nat} {v : Value} {l : List Int} (h : RdI k w B v l) (hB : B ≤ B') : RdI k w B' v l := by
  obtain ⟨A, c, hv, hc, hm, hr⟩ := h
  refine ⟨A, c, hv, hc, hm, fun i hi => ?_⟩
  obtain ⟨ad, h1, h2, h3⟩ := hr i hi
  exact ⟨ad, h1, by omega, h3⟩
theorem RdI.step {k : IntKind} {w w' : World} {v : Value} {l : List Int} (h : RdI k w w.heap.size v l) (hb : Below w.heap.size w w') : RdI k w' w'.heap.size v l := (h.below hb).more hb.size
/-- It returns a list of numbers of its own; what was there is as it was. -/
def RetL (k : IntKind) (e : TypeId) (l : List Nat) (w : World) : Ending → World → Prop := fun en w' =>
  ∃ v, en = .returned v ∧ OwnN k e w' w.heap.size v l ∧ Below w.heap.size w w'
theorem RetL.mk {k : IntKind} {e : TypeId} {l : List Nat} {w w' : World} {x v : Value} (hx : x = v) (ho : OwnN k e w' w.heap.size v l) (hb : Below w.heap.size w w') : RetL k e l w (.returned x) w' :=
  ⟨v, by rw [hx], ho, hb⟩
/-- Two texts, as the walk compares them. -/
theorem text_eq {s t : ByteArray} (h : s = t) : (s.toList == t.toList) = true := by rw [h]; exact beq_self_eq_true _
theorem text_ne {s t : ByteArray} (h : ¬ s = t) : (s.toList == t.toList) = false := beq_eq_false_iff_ne.2 fun e => h (by
  rw [ByteArray.toList_eq, ByteArray.toList_eq] at e
  exact Go.WideShapes.bytes_inj e)
theorem get_mem' {l : List Nat} {i : Nat} (h : i < l.length) : l.getD i 0 ∈ l := by
  rw [List.getD_eq_getElem?_getD, List.getElem?_eq_getElem h]; exact List.getElem_mem h
end Go.VB
namespace Go.Proofs.Ytjbkeipagdmlpaa
open Go.RowKit Go.VB
theorem Try.inf8 : (Try.prog.info? 5).map (fun i => (i.zero, i.size, i.bytes)) = some (some (.int .u8 0), 1, 1) := by kernel_rfl
theorem Try.inf32 : (Try.prog.info? 101).map (fun i => (i.zero, i.size, i.bytes)) = some (some (.int .u32 0), 1, 4) := by kernel_rfl
theorem Try.infInt : (Try.prog.info? 3).map (fun i => (i.zero, i.size, i.bytes)) = some (some (.int .i64 0), 1, 8) := by kernel_rfl
theorem pick_neg {v n : Int} (h : v < 0) (h1 : -9223372036854775808 ≤ v) (h3 : 1 ≤ n) (h4 : n ≤ 4611686018427387904) : wrap64 ((IntKind.u64.wrap v).tmod n) = (v + 18446744073709551616) % n := by
  have e : IntKind.u64.wrap v = v + 18446744073709551616 := by
    rw [IntKind.wrap_u64]; omega
  have hm := Int.emod_nonneg (v + 18446744073709551616) (show n ≠ 0 by omega)
  have hl := Int.emod_lt_of_pos (v + 18446744073709551616) (show 0 < n by omega)
  rw [e, Int.tmod_eq_emod_of_nonneg (by omega)]
  unfold wrap64; omega
theorem pick_pos {v n : Int} (h3 : 1 ≤ n) (h4 : n ≤ 4611686018427387904) : wrap64 (v % n) = v % n := by
  have hm := Int.emod_nonneg v (show n ≠ 0 by omega)
  have hl := Int.emod_lt_of_pos v (show 0 < n by omega)
  unfold wrap64; omega
set_option maxHeartbeats 400000 in
theorem pick_any (v n : Int) (w : World) (h1 : -9223372036854775808 ≤ v) (h2 : v ≤ 9223372036854775807) (h3 : 1 ≤ n) (h4 : n ≤ 4611686018427387904) :
    Calls Try.prog 15 #[.int .i64 v, .int .i64 n] w (Ret (.int .i64 ((if v < 0 then v + 18446744073709551616 else v) % n)) w) := by
  by_cases h : v < 0
  · rw [if_pos h]
    go_enter Try.func15, Try.ntmps15
    go_wp2
    go_ret
    exact Ret.mk (vint (pick_neg h h1 h3 h4))
  · rw [if_neg h]
    go_enter Try.func15, Try.ntmps15
    go_wp2
    go_ret
    exact Ret.mk (vint (pick_pos h3 h4))

/-- The number that Pick returns. -/
def pickN (v n : Int) : Int := (if v < 0 then v + 18446744073709551616 else v) % n
theorem pickN_bd (v : Int) {n : Int} (h : 0 < n) : 0 ≤ pickN v n ∧ pickN v n < n := ⟨Int.emod_nonneg _ (by omega), Int.emod_lt_of_pos _ h⟩
theorem pick_at (v n : Int) (w : World) (hv : (Lit.int .i64 v).wf = true) (h3 : 1 ≤ n) (h4 : n ≤ 4611686018427387904) : Calls Try.prog 15 #[.int .i64 v, .int .i64 n] w (Ret (.int .i64 (pickN v n)) w) := by
  obtain ⟨h1, h2⟩ := bounds_i64 hv
  exact pick_any v n w h1 h2 h3 h4
end Go.Proofs.Ytjbkeipagdmlpaa
