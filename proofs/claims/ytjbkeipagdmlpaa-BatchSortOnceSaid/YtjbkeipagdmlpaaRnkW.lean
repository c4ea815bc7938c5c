/- The statements' own rank of a record, and the order of two ranks. -/
import Derived.Test.YtjbkeipagdmlpaaRnk
import Derived.Test.YtjbkeipagdmlpaaValW4
import Derived.Test.YtjbkeipagdmlpaaRecQ
namespace Go.RS
open Go.RowKit Go.VB Go.VS Go.VL Go.MK Go.ST
/-- The rank of a record by column k: its key is none where the row has no such column. -/
def rankV (k : Int) (r : Rc) : Vl := if k < 0 ∨ (r.row.length : Int) ≤ k then vl0 else keyV k.toNat r
def rankS (k : Int) (r : Rc) : Int := if k < 0 ∨ (r.row.length : Int) ≤ k then 0 else r.seq
end Go.RS
namespace Go.Proofs.Ytjbkeipagdmlpaa
open Go.RowKit Go.VB Go.VS Go.VL Go.MK Go.ST Go.RS
set_option linter.constructorNameAsVariable false
set_option maxRecDepth 100000 in
set_option maxHeartbeats 400000 in
theorem rcr_any (ty : Int) (b : Bool) (n : Int) (s : ByteArray) (q : Int) (b' : Bool) (n' : Int) (s' : ByteArray) (q' : Int) (w : World) :
    Calls Try.prog 24 #[.int .i64 ty, .agg #[.bool b, .int .i64 n, .string s, .int .i64 q], .agg #[.bool b', .int .i64 n', .string s', .int .i64 q']] w (RetB (.int .i64 (cmpR ty ⟨b, n, s⟩ q ⟨b', n', s'⟩ q')) w) := by
  have HC := fun w => Lib.hid (rcmp_any ty b n s b' n' s' w)
  have hV := Lib.hid (show ∀ w', Below ((w.alloc (.cells #[.bool b, .int .i64 n, .string s, .int .i64 q] 43)).alloc (.cells #[.bool b', .int .i64 n', .string s', .int .i64 q'] 43)).heap.size ((w.alloc (.cells #[.bool b, .int .i64 n, .string s, .int .i64 q] 43)).alloc (.cells #[.bool b', .int .i64 n', .string s', .int .i64 q'] 43)) w' → Var4 w' w.heap.size (.bool b) (.int .i64 n) (.string s) (.int .i64 q) ∧ Var4 w' (w.heap.size + 1) (.bool b') (.int .i64 n') (.string s') (.int .i64 q') ∧ Below w.heap.size w w' from fun w' h => by
    refine ⟨((Var4.new w (.bool b) (.int .i64 n) (.string s) (.int .i64 q) 43).step ((Below.refl _ _).alloc (Nat.le_refl _) _)).step h, ?_, ?_⟩
    · have := Var4.new (w.alloc (.cells #[.bool b, .int .i64 n, .string s, .int .i64 q] 43)) (.bool b') (.int .i64 n') (.string s') (.int .i64 q') 43
      rw [show (w.alloc (.cells #[.bool b, .int .i64 n, .string s, .int .i64 q] 43)).heap.size = w.heap.size + 1 by simp] at this
      exact this.step h
    · exact (((Below.refl _ _).alloc (Nat.le_refl _) _).alloc (by simp) _).trans (h.mono (by simp; omega)))
  have hu : cmpR ty ⟨b, n, s⟩ q ⟨b', n', s'⟩ q' = if cmp ty b n s b' n' s' ≠ 0 then cmp ty b n s b' n' s' else cmpI q q' := rfl
  rw [hu]; clear hu
  generalize cmp ty b n s b' n' s' = c at *
  go_enter Try.func24, Try.ntmps24
  by_cases h0 : c = 0
  · subst h0
    have h1 : (if (0 : Int) ≠ 0 then (0 : Int) else cmpI q q') = cmpI q q' := rfl
    rw [h1]; clear h1
    have h2 : (q < q' ∧ cmpI q q' = -1) ∨ (q = q' ∧ cmpI q q' = 0) ∨ (¬ q < q' ∧ ¬ q = q' ∧ cmpI q q' = 1) := by
      unfold cmpI
      by_cases h : q < q'
      · exact .inl ⟨h, by simp [h]⟩
      · by_cases h' : q = q'
        · subst h'; simp
        · exact .inr (.inr ⟨h, h', by rw [if_neg h, if_pos (by omega)]⟩)
    rcases h2 with ⟨e1, e2⟩ | ⟨e1, e2⟩ | ⟨e0, e1, e2⟩
    · rw [e2]
      clear e2
      have t1 : decide (q < q') = true := decide_eq_true e1
      clear e1
      go_wp2_with (first | ((with_reducible refine (HC _).out.mono ?_); rintro e w1 ⟨rfl, hb⟩; obtain ⟨⟨a0, a1, a2, a3⟩, ⟨d0, d1, d2, d3⟩, hbel⟩ := hV.out _ hb; clear hb) | fail)
      go_ret
      exact RetB.mk rfl hbel
    · subst e1
      rw [e2]
      clear e2
      have t1 : decide (q < q) = false := by simp
      have t2 : (q == q) = true := by simp
      go_wp2_with (first | ((with_reducible refine (HC _).out.mono ?_); rintro e w1 ⟨rfl, hb⟩; obtain ⟨⟨a0, a1, a2, a3⟩, ⟨d0, d1, d2, d3⟩, hbel⟩ := hV.out _ hb; clear hb) | fail)
      go_ret
      exact RetB.mk rfl hbel
    · rw [e2]
      clear e2
      have t1 : decide (q < q') = false := decide_eq_false e0
      have t2 : (q == q') = false := by simpa using e1
      clear e0 e1
      go_wp2_with (first | ((with_reducible refine (HC _).out.mono ?_); rintro e w1 ⟨rfl, hb⟩; obtain ⟨⟨a0, a1, a2, a3⟩, ⟨d0, d1, d2, d3⟩, hbel⟩ := hV.out _ hb; clear hb) | fail)
      go_ret
      exact RetB.mk rfl hbel
  · go_wp2_with (first | ((with_reducible refine (HC _).out.mono ?_); rintro e w1 ⟨rfl, hb⟩; obtain ⟨⟨a0, a1, a2, a3⟩, ⟨d0, d1, d2, d3⟩, hbel⟩ := hV.out _ hb; clear hb) | fail)
    go_ret
    exact RetB.mk rfl hbel
set_option maxRecDepth 100000 in
set_option maxHeartbeats 400000 in
theorem rof_any (sA : Option Addr) (sn sc : Nat) (key : Int) (r : Rc) (rA : Option Addr) (rc : Nat) (w : World) (hx : RdL w w.heap.size (.slice rA r.row.length rc) r.row) :
    Calls Try.prog 20 #[.agg #[.slice sA sn sc, .int .i64 key], .agg #[.int .i64 r.seq, .slice rA r.row.length rc]] w (RetB (.agg #[.bool (rankV key r).nu, .int .i64 (rankV key r).n, .string (rankV key r).s, .int .i64 (rankS key r)]) w) := by
  obtain ⟨q, row⟩ := r
  simp only at hx ⊢
  have hb2 : ∀ u v z : Obj, Below w.heap.size w (((w.alloc u).alloc v).alloc z) := fun u v z => (((Below.refl _ _).alloc (Nat.le_refl _) u).alloc (by simp) v).alloc (by simp; omega) z
  by_cases hneg : key < 0
  · have e1 : rankV key ⟨q, row⟩ = vl0 := by unfold rankV; rw [if_pos (.inl hneg)]
    have e2 : rankS key ⟨q, row⟩ = 0 := by unfold rankS; rw [if_pos (.inl hneg)]
    rw [e1, e2]
    clear e1 e2 hx
    have t1 : decide (key < 0) = true := decide_eq_true hneg
    go_enter Try.func20, Try.ntmps20
    go_wp2_with fail
    refine bodyPost_ret (v := .agg #[.bool false, .int .i64 0, .string ⟨#[]⟩, .int .i64 0]) (by simp [results, Try.results20, go_sem]) rfl ?_
    exact RetB.mk rfl (hb2 _ _ _)
  · obtain ⟨k, rfl⟩ : ∃ k : Nat, key = k := ⟨key.toNat, by omega⟩
    have t1 : decide ((k : Int) < 0) = false := decide_eq_false hneg
    clear hneg
    by_cases hlt : k < row.length
    · have hl : row[k]? = some row[k] := List.getElem?_eq_getElem hlt
      have e1 : rankV k ⟨q, row⟩ = row[k] := by
        unfold rankV; rw [if_neg (by simp; omega)]; unfold keyV; simp [hlt]
      have e2 : rankS k ⟨q, row⟩ = q := by unfold rankS; rw [if_neg (by simp; omega)]
      rw [e1, e2]
      clear e1 e2
      obtain ⟨ad, rfl, hbk, q0, q1, q2⟩ := (hx.below (hb2 (.cells #[.slice sA sn sc, .int .i64 k] 28) (.cells #[.int .i64 q, .slice rA row.length rc] 41) (.cells #[.bool false, .int .i64 0, .string ⟨#[]⟩, .int .i64 0] 43))).at hl
      clear hl hx
      generalize row[k] = V at q0 q1 q2
      obtain ⟨vb, vn, vs⟩ := V
      simp only at q0 q1 q2
      go_enter Try.func20, Try.ntmps20
      have t2 : decide ((row.length : Int) ≤ k) = false := decide_eq_false (by omega)
      go_wp2_with fail
      go_region
      go_wp2_with fail
      refine bodyPost_ret (v := .agg #[.bool vb, .int .i64 vn, .string vs, .int .i64 q]) (by simp [results, Try.results20, go_sem]) rfl ?_
      exact RetB.mk rfl (hb2 _ _ _).drew
    · have e1 : rankV k ⟨q, row⟩ = vl0 := by unfold rankV; rw [if_pos (.inr (by simp; omega))]
      have e2 : rankS k ⟨q, row⟩ = 0 := by unfold rankS; rw [if_pos (.inr (by simp; omega))]
      rw [e1, e2]
      clear e1 e2 hx
      go_enter Try.func20, Try.ntmps20
      have t2 : decide ((row.length : Int) ≤ k) = true := decide_eq_true (by omega)
      go_wp2_with fail
      refine bodyPost_ret (v := .agg #[.bool false, .int .i64 0, .string ⟨#[]⟩, .int .i64 0]) (by simp [results, Try.results20, go_sem]) rfl ?_
      exact RetB.mk rfl (hb2 _ _ _)
end Go.Proofs.Ytjbkeipagdmlpaa
