/- Arguments that are slices of whole numbers: what can be read of them. -/
import Derived.Test.YtjbkeipagdmlpaaMem
import Derived.ChangeSlices
namespace Go.VB
open Go.RowKit Go.ChangeShapes Go.WideShapes Go.ChangeAt

/-- The slice v can be read and holds the whole numbers zs; it lies below block B. -/
def RdI (k : IntKind) (w : World) (B : Nat) (v : Value) (zs : List Int) : Prop :=
  ∃ A c, v = .slice A zs.length c ∧ zs.length ≤ c ∧ c ≤ maxLen ∧ ∀ i, i < zs.length → ∃ ad, A = some ad ∧ ad.block < B ∧ w.cell? (ad.add i) = some (.int k (zs.getD i 0))
theorem RdI.below {k : IntKind} {w w' : World} {B : Nat} {v : Value} {zs : List Int} (h : RdI k w B v zs) (hb : Below B w w') : RdI k w' B v zs := by
  obtain ⟨A, c, hv, hc, hm, hr⟩ := h
  refine ⟨A, c, hv, hc, hm, fun i hi => ?_⟩
  obtain ⟨ad, h1, h2, h3⟩ := hr i hi
  exact ⟨ad, h1, h2, by rw [hb.cell (by rw [block_add]; exact h2)]; exact h3⟩
theorem RdI.toN {k : IntKind} {w : World} {B : Nat} {v : Value} {zs : List Int} (h : RdI k w B v zs) (h0 : ∀ z ∈ zs, 0 ≤ z) : RdN k w B v (zs.map Int.toNat) := by
  obtain ⟨A, c, hv, hc, hm, hr⟩ := h
  refine ⟨A, c, by rw [List.length_map]; exact hv, by rw [List.length_map]; exact hc, hm, fun i hi => ?_⟩
  rw [List.length_map] at hi
  obtain ⟨ad, h1, h2, h3⟩ := hr i hi
  refine ⟨ad, h1, h2, h3.trans ?_⟩
  have hz := h0 _ (List.getElem_mem hi)
  rw [List.getD_eq_getElem?_getD, List.getD_eq_getElem?_getD, List.getElem?_map, List.getElem?_eq_getElem hi]
  simp only [Option.map_some, Option.getD_some]
  rw [Int.toNat_of_nonneg hz]

section
variable {H : Type} {enc : TypeId × Value → H} {P : Program}
theorem open_rdI {r : Reach} {b0 : Nat} {t e : TypeId} {k : IntKind} {w : World} {v : Value} {d : DataW H} {ps : List MemPlace} {held : Bool} (ht : P.underlying t = some (.slice e)) (he : P.underlying e = some (.int k)) (hc : P.cellsOf e = 1)
    (hval : Value.okWide P w r b0 t v) (hd : DataW.Trod enc P w 0 (fun _ => true) held t v d ps) {ts : List TypeId} {ds : List (DataW H)} (hsz : (DataW.weightsEach P ts ds).all (· ≤ reachBytes) = true) {j : Nat} (hj : ts[j]? = some t) (hdj : ds[j]? = some d) :
    ∃ zs, RdI k w w.heap.size v zs ∧ (∀ z ∈ zs, (Lit.int k z).wf = true) ∧ zs.length * P.bytesOf e ≤ 140737488351232 := by
  obtain ⟨A, l, c, rfl⟩ := okWide_slice ht hval
  obtain ⟨fuel, hf⟩ := hd
  rcases open_ints ht he hc hf with ⟨hcs, hx⟩ | ⟨a, len, cap, zs, hcs, _, hl, hm, hz, hx, hcell, hwf⟩
  · simp only [Value.cells, List.cons.injEq, Value.slice.injEq, and_true] at hcs
    obtain ⟨rfl, rfl, rfl⟩ := hcs
    exact ⟨[], ⟨none, 0, rfl, Nat.le_refl _, Nat.zero_le _, fun i hi => absurd hi (Nat.not_lt_zero _)⟩, fun z hz => absurd hz (by simp), by simp⟩
  · simp only [Value.cells, List.cons.injEq, Value.slice.injEq, and_true] at hcs
    obtain ⟨rfl, rfl, rfl⟩ := hcs
    simp only [if_true] at hz
    have hlen : (zs.take l).length = l := by rw [List.length_take]; omega
    refine ⟨zs.take l, ⟨some a, c, by rw [hlen], by rw [hlen]; exact hl, hm, fun i hi => ?_⟩, fun z hz' => hwf z (List.mem_of_mem_take hz'), ?_⟩
    · rw [hlen] at hi
      have hci := hcell i (by omega)
      have hb := World.block_lt_of_cell? w _ hci
      rw [block_add] at hb
      refine ⟨a, rfl, hb, ?_⟩
      rw [hci, List.getD_eq_getElem?_getD, List.getD_eq_getElem?_getD, List.getElem?_take, if_pos hi]
    · obtain ⟨rfl, _⟩ : d = _ ∧ ps = _ := by simpa using hx
      have h := sized_slice hsz hj hdj ht
      rw [hlen]
      have h2 : l ≤ ((lits (H := H) k (zs.take l)).length + (lits (H := H) k (zs.drop l)).length : Nat) := by simp only [lits, List.length_map, hlen]; omega
      refine Nat.le_trans (Nat.mul_le_mul_right _ h2) (Nat.le_trans ?_ (show reachBytes ≤ 140737488351232 by decide))
      exact h
end
theorem wf_u64 {z : Int} (h : (Lit.int .u64 z).wf = true) : 0 ≤ z ∧ z.toNat < 2 ^ 64 := by
  obtain ⟨h1, h2⟩ := bounds_u64 h
  rw [show (2 : Nat) ^ 64 = 18446744073709551616 from by decide]
  omega
end Go.VB
