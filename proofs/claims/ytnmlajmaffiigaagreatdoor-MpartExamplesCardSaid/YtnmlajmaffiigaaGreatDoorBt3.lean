/- The statements' own rank of a record, and the order of two ranks. -/
import Derived.Test.YtnmlajmaffiigaaGreatDoorGb
import Derived.Test.YtnmlajmaffiigaaGreatDoorGw
import Derived.Test.YtnmlajmaffiigaaGreatDoorBt2
import Derived.Test.YtnmlajmaffiigaaGreatDoorGc
namespace Go.RS
open Go.RowKit Go.VB Go.VS Go.VL Go.MK Go.ST
/-- The rank of a record by column k: its key is none where the row has no such column. -/
def rankV (k : Int) (r : Rc) : Vl := if k < 0 ∨ (r.row.length : Int) ≤ k then vl0 else keyV k.toNat r
def rankS (k : Int) (r : Rc) : Int := if k < 0 ∨ (r.row.length : Int) ≤ k then 0 else r.seq
end Go.RS
namespace Go.Proofs.YtnmlajmaffiigaaGreatDoor
open Go.RowKit Go.VB Go.VS Go.VL Go.MK Go.ST Go.RS
set_option linter.constructorNameAsVariable false
end Go.Proofs.YtnmlajmaffiigaaGreatDoor

namespace Go.Proofs.YtnmlajmaffiigaaGreatDoor
open Go.RowKit Go.VB Go.VS Go.VL Go.SC Go.CK Go.ST Go.MK Go.RS
set_option linter.constructorNameAsVariable false
set_option maxRecDepth 100000 in
set_option maxHeartbeats 400000 in
theorem brank_any (sA : Option Addr) (sn sc : Nat) (key : Int) (r : Rc) (rA : Option Addr) (rc : Nat) (w : World) (hx : RdL w w.heap.size (.slice rA r.row.length rc) r.row) :
    Calls Tryz.prog 87 #[.agg #[.slice sA sn sc, .int .i64 key], .agg #[.int .i64 r.seq, .slice rA r.row.length rc]] w (RetB (.agg #[.bool (rankV key r).nu, .int .i64 (rankV key r).n, .string (rankV key r).s, .int .i64 (rankS key r)]) w) := by
  obtain ⟨q, row⟩ := r
  simp only at hx ⊢
  have hb2 : ∀ u v z : Obj, Below w.heap.size w (((w.alloc u).alloc v).alloc z) := fun u v z => (((Below.refl _ _).alloc (Nat.le_refl _) u).alloc (by simp) v).alloc (by simp; omega) z
  by_cases hneg : key < 0
  · have e1 : rankV key ⟨q, row⟩ = vl0 := by unfold rankV; rw [if_pos (.inl hneg)]
    have e2 : rankS key ⟨q, row⟩ = 0 := by unfold rankS; rw [if_pos (.inl hneg)]
    rw [e1, e2]
    clear e1 e2 hx
    have t1 : decide (key < 0) = true := decide_eq_true hneg
    go_enter Tryz.func87, Tryz.ntmps87
    go_wp2_with fail
    refine bodyPost_ret (v := .agg #[.bool false, .int .i64 0, .string ⟨#[]⟩, .int .i64 0]) (by simp [results, Tryz.results87, go_sem]) rfl ?_
    exact RetB.mk rfl (hb2 _ _ _)
  · obtain ⟨k, rfl⟩ : ∃ k : Nat, key = k := ⟨key.toNat, by omega⟩
    have t1 : decide ((k : Int) < 0) = false := decide_eq_false hneg
    clear hneg
    by_cases hlt : k < row.length
    · have hl : row[k]? = some row[k] := List.getElem?_eq_getElem hlt
      have e1 : rankV k ⟨q, row⟩ = row[k] := by
        unfold rankV; rw [if_neg (by simp; omega)]; unfold keyV; simp [hlt]
      have e2 : rankS k ⟨q, row⟩ = q := by unfold rankS; rw [if_neg (by simp; omega)]
      rw [e1, e2]
      clear e1 e2
      obtain ⟨ad, rfl, hbk, q0, q1, q2⟩ := (hx.below (hb2 (.cells #[.slice sA sn sc, .int .i64 k] 24) (.cells #[.int .i64 q, .slice rA row.length rc] 67) (.cells #[.bool false, .int .i64 0, .string ⟨#[]⟩, .int .i64 0] 51))).at hl
      clear hl hx
      generalize row[k] = V at q0 q1 q2
      obtain ⟨vb, vn, vs⟩ := V
      simp only at q0 q1 q2
      go_enter Tryz.func87, Tryz.ntmps87
      have t2 : decide ((row.length : Int) ≤ k) = false := decide_eq_false (by omega)
      go_wp2_with fail
      go_region
      go_wp2_with fail
      refine bodyPost_ret (v := .agg #[.bool vb, .int .i64 vn, .string vs, .int .i64 q]) (by simp [results, Tryz.results87, go_sem]) rfl ?_
      exact RetB.mk rfl (hb2 _ _ _).drew
    · have e1 : rankV k ⟨q, row⟩ = vl0 := by unfold rankV; rw [if_pos (.inr (by simp; omega))]
      have e2 : rankS k ⟨q, row⟩ = 0 := by unfold rankS; rw [if_pos (.inr (by simp; omega))]
      rw [e1, e2]
      clear e1 e2 hx
      go_enter Tryz.func87, Tryz.ntmps87
      have t2 : decide ((row.length : Int) ≤ k) = true := decide_eq_true (by omega)
      go_wp2_with fail
      refine bodyPost_ret (v := .agg #[.bool false, .int .i64 0, .string ⟨#[]⟩, .int .i64 0]) (by simp [results, Tryz.results87, go_sem]) rfl ?_
      exact RetB.mk rfl (hb2 _ _ _)
set_option maxRecDepth 100000 in
set_option maxHeartbeats 400000 in
theorem bcmp_any (ty : Int) (b : Bool) (n : Int) (s : ByteArray) (q : Int) (b' : Bool) (n' : Int) (s' : ByteArray) (q' : Int) (w : World) :
    Calls Tryz.prog 115 #[.int .i64 ty, .agg #[.bool b, .int .i64 n, .string s, .int .i64 q], .agg #[.bool b', .int .i64 n', .string s', .int .i64 q']] w (RetB (.int .i64 (cmpR ty ⟨b, n, s⟩ q ⟨b', n', s'⟩ q')) w) := by
  have HC := fun w => Lib.hid (cmp_any ty b n s b' n' s' w)
  have hV := Lib.hid (show ∀ w', Below ((w.alloc (.cells #[.bool b, .int .i64 n, .string s, .int .i64 q] 51)).alloc (.cells #[.bool b', .int .i64 n', .string s', .int .i64 q'] 51)).heap.size ((w.alloc (.cells #[.bool b, .int .i64 n, .string s, .int .i64 q] 51)).alloc (.cells #[.bool b', .int .i64 n', .string s', .int .i64 q'] 51)) w' → Var4 w' w.heap.size (.bool b) (.int .i64 n) (.string s) (.int .i64 q) ∧ Var4 w' (w.heap.size + 1) (.bool b') (.int .i64 n') (.string s') (.int .i64 q') ∧ Below w.heap.size w w' from fun w' h => by
    refine ⟨((Var4.new w (.bool b) (.int .i64 n) (.string s) (.int .i64 q) 51).step ((Below.refl _ _).alloc (Nat.le_refl _) _)).step h, ?_, ?_⟩
    · have := Var4.new (w.alloc (.cells #[.bool b, .int .i64 n, .string s, .int .i64 q] 51)) (.bool b') (.int .i64 n') (.string s') (.int .i64 q') 51
      rw [show (w.alloc (.cells #[.bool b, .int .i64 n, .string s, .int .i64 q] 51)).heap.size = w.heap.size + 1 by simp] at this
      exact this.step h
    · exact (((Below.refl _ _).alloc (Nat.le_refl _) _).alloc (by simp) _).trans (h.mono (by simp; omega)))
  have hu : cmpR ty ⟨b, n, s⟩ q ⟨b', n', s'⟩ q' = if cmp ty b n s b' n' s' ≠ 0 then cmp ty b n s b' n' s' else cmpI q q' := rfl
  rw [hu]; clear hu
  generalize cmp ty b n s b' n' s' = c at *
  go_enter Tryz.func115, Tryz.ntmps115
  by_cases h0 : c = 0
  · subst h0
    have h1 : (if (0 : Int) ≠ 0 then (0 : Int) else cmpI q q') = cmpI q q' := rfl
    rw [h1]; clear h1
    have h2 : (q < q' ∧ cmpI q q' = -1) ∨ (¬ q < q' ∧ q' < q ∧ cmpI q q' = 1) ∨ (¬ q < q' ∧ ¬ q' < q ∧ cmpI q q' = 0) := by
      unfold cmpI
      by_cases h : q < q'
      · exact .inl ⟨h, by simp [h]⟩
      · by_cases h' : q' < q
        · exact .inr (.inl ⟨h, h', by rw [if_neg h, if_pos h']⟩)
        · exact .inr (.inr ⟨h, h', by rw [if_neg h, if_neg h']⟩)
    rcases h2 with ⟨e1, e2⟩ | ⟨e0, e1, e2⟩ | ⟨e0, e1, e2⟩
    · rw [e2]
      clear e2
      have t1 : decide (q < q') = true := decide_eq_true e1
      clear e1
      go_wp2_with (first | ((with_reducible refine (HC _).out.mono ?_); rintro e w1 ⟨rfl, hb⟩; obtain ⟨⟨a0, a1, a2, a3⟩, ⟨d0, d1, d2, d3⟩, hbel⟩ := hV.out _ hb; clear hb) | fail)
      go_ret
      exact RetB.mk rfl hbel
    · rw [e2]
      clear e2
      have t1 : decide (q < q') = false := decide_eq_false e0
      have t2 : decide (q' < q) = true := decide_eq_true e1
      clear e0 e1
      go_wp2_with (first | ((with_reducible refine (HC _).out.mono ?_); rintro e w1 ⟨rfl, hb⟩; obtain ⟨⟨a0, a1, a2, a3⟩, ⟨d0, d1, d2, d3⟩, hbel⟩ := hV.out _ hb; clear hb) | fail)
      go_ret
      exact RetB.mk rfl hbel
    · rw [e2]
      clear e2
      have t1 : decide (q < q') = false := decide_eq_false e0
      have t2 : decide (q' < q) = false := decide_eq_false e1
      clear e0 e1
      go_wp2_with (first | ((with_reducible refine (HC _).out.mono ?_); rintro e w1 ⟨rfl, hb⟩; obtain ⟨⟨a0, a1, a2, a3⟩, ⟨d0, d1, d2, d3⟩, hbel⟩ := hV.out _ hb; clear hb) | fail)
      go_ret
      exact RetB.mk rfl hbel
  · rw [if_pos h0]
    have t0 : (c != 0) = true := ine_t h0
    clear h0
    go_wp2_with (first | ((with_reducible refine (HC _).out.mono ?_); rintro e w1 ⟨rfl, hb⟩; obtain ⟨⟨a0, a1, a2, a3⟩, ⟨d0, d1, d2, d3⟩, hbel⟩ := hV.out _ hb; clear hb) | fail)
    go_ret
    exact RetB.mk rfl hbel
end Go.Proofs.YtnmlajmaffiigaaGreatDoor

namespace Go.RS
open Go.RowKit Go.VB Go.VS Go.VL Go.SC Go.CK Go.ST Go.MK
theorem rankV_in {k : Nat} {r : Rc} (h : k < r.row.length) : rankV k r = keyV k r ∧ rankS k r = r.seq := by
  unfold rankV rankS
  rw [if_neg (by omega), if_neg (by omega)]
  exact ⟨rfl, rfl⟩
theorem snoc_asc {p : Nat → Rc → Rc → Prop} {j : Nat} {l : List Rc} {x y : Rc} (h : ∀ (m : Nat) (a b : Rc), m + 1 < j + 1 → l[m]? = some a → l[m + 1]? = some b → p m a b) (hx : l[j]? = some x) (hy : l[j + 1]? = some y) (hp : p j x y) :
    ∀ (m : Nat) (a b : Rc), m + 1 < j + 2 → l[m]? = some a → l[m + 1]? = some b → p m a b := by
  intro m a b hm h1 h2
  by_cases e : m = j
  · subst e; rw [hx] at h1; rw [hy] at h2; cases h1; cases h2; exact hp
  · exact h m a b (by omega) h1 h2
end Go.RS
namespace Go.Proofs.YtnmlajmaffiigaaGreatDoor
open Go.RowKit Go.VB Go.VS Go.VL Go.SC Go.CK Go.ST Go.MK Go.RS
set_option linter.constructorNameAsVariable false
set_option maxRecDepth 100000 in
set_option maxHeartbeats 2000000 in
theorem isLess_any (cs : List Col) (v : Value) (k : Nat) (a b : Rc) (xa xb : Value) (W : World) (hS : RdC W W.heap.size v cs) (hk : k < cs.length) (ha : RdL W W.heap.size xa a.row) (hb : RdL W W.heap.size xb b.row) (la : a.row.length = cs.length) (lb : b.row.length = cs.length) :
    Calls Tryz.prog 78 #[.agg #[v, .int .i64 (k : Int)], .agg #[.int .i64 a.seq, xa], .agg #[.int .i64 b.seq, xb]] W (RetB (.bool (decide (cmpRec (cs.getD k col0).ty k a b < 0))) W) := by
  obtain ⟨A2, c2, rfl, hc2, hm2, hrr⟩ := hS
  unfold maxLen at hm2
  obtain ⟨ad, rfl, hab, hat⟩ := hrr k hk
  obtain ⟨rA, rc, n1, rfl, h1, -, -⟩ := ha.bds
  obtain ⟨rB, rd, n2, rfl, h2, -, -⟩ := hb.bds
  subst h1 h2
  obtain ⟨e1, e2⟩ := rankV_in (k := k) (r := a) (by omega)
  obtain ⟨e3, e4⟩ := rankV_in (k := k) (r := b) (by omega)
  have hR1 := fun w (h : Below W.heap.size W w) => brank_any (some ad) cs.length c2 k a rA rc w (ha.step h)
  have hR2 := fun w (h : Below W.heap.size W w) => brank_any (some ad) cs.length c2 k b rB rd w (hb.step h)
  simp only [e1, e2] at hR1
  simp only [e3, e4] at hR2
  unfold cmpRec
  have hC := fun w => bcmp_any (cs.getD k col0).ty (keyV k a).nu (keyV k a).n (keyV k a).s a.seq (keyV k b).nu (keyV k b).n (keyV k b).s b.seq w
  have eta : ∀ x : Vl, (⟨x.nu, x.n, x.s⟩ : Vl) = x := fun _ => rfl
  simp only [eta] at hC
  generalize cmpR (cs.getD k col0).ty (keyV k a) a.seq (keyV k b) b.seq = E at *
  generalize (keyV k a).nu = a1 at *
  generalize (keyV k a).n = a2 at *
  generalize (keyV k a).s = a3 at *
  generalize (keyV k b).nu = b1 at *
  generalize (keyV k b).n = b2 at *
  generalize (keyV k b).s = b3 at *
  generalize a.row.length = la' at *
  generalize b.row.length = lb' at *
  generalize a.seq = qa at *
  generalize b.seq = qb at *
  have hw1 := Var2.new W (.slice (some ad) cs.length c2) (.int .i64 (k : Int)) 24
  have hB1 : Below W.heap.size W (W.alloc (.cells #[.slice (some ad) cs.length c2, .int .i64 (k : Int)] 24)) := (Below.refl _ _).alloc (Nat.le_refl _) _
  generalize hX1 : W.alloc (.cells #[.slice (some ad) cs.length c2, .int .i64 (k : Int)] 24) = X1 at *
  have hs1 : X1.heap.size = W.heap.size + 1 := by rw [← hX1]; simp
  have hw2 := Var2.new X1 (.int .i64 qa) (.slice rA la' rc) 67
  have hw1' := hw1.step ((Below.refl _ _).alloc (Nat.le_refl _) (.cells #[.int .i64 qa, .slice rA la' rc] 67))
  have hB2 := hB1.alloc (by omega) (.cells #[.int .i64 qa, .slice rA la' rc] 67)
  generalize hX2 : X1.alloc (.cells #[.int .i64 qa, .slice rA la' rc] 67) = X2 at *
  have hs2 : X2.heap.size = W.heap.size + 2 := by rw [← hX2]; simp; omega
  have hw3 := Var2.new X2 (.int .i64 qb) (.slice rB lb' rd) 67
  have hw1'' := hw1'.step ((Below.refl _ _).alloc (Nat.le_refl _) (.cells #[.int .i64 qb, .slice rB lb' rd] 67))
  have hw2' := hw2.step ((Below.refl _ _).alloc (Nat.le_refl _) (.cells #[.int .i64 qb, .slice rB lb' rd] 67))
  have hB3 := hB2.alloc (by omega) (.cells #[.int .i64 qb, .slice rB lb' rd] 67)
  generalize hX3 : X2.alloc (.cells #[.int .i64 qb, .slice rB lb' rd] 67) = X3 at *
  have HX3 := Lib.hid (show ((W.alloc (.cells #[.slice (some ad) cs.length c2, .int .i64 (k : Int)] 24)).alloc (.cells #[.int .i64 qa, .slice rA la' rc] 67)).alloc (.cells #[.int .i64 qb, .slice rB lb' rd] 67) = X3 by rw [hX1, hX2, hX3])
  rw [hs1] at hw2'
  rw [hs2] at hw3
  clear hX1 hX2 hX3 hs1 hs2 hB1 hB2 hw1 hw1' hw2
  generalize cs.getD k col0 = C at *
  obtain ⟨nm, ty, sc, nu⟩ := C
  have HV := Lib.hid (show ∀ w, Below X3.heap.size X3 w → Var2 w W.heap.size (.slice (some ad) cs.length c2) (.int .i64 (k : Int)) ∧ Var2 w (W.heap.size + 1) (.int .i64 qa) (.slice rA la' rc) ∧ Var2 w (W.heap.size + 2) (.int .i64 qb) (.slice rB lb' rd) ∧ At4 w ad k ⟨nm, ty, sc, nu⟩ ∧ Below W.heap.size W w from fun w h =>
    have h2 := bel_trans hB3 h
    ⟨hw1''.step h, hw2'.step h, hw3.step h, hat.below h2 hab, h2⟩)
  have HR1 := fun w (h : Below X3.heap.size X3 w) => Lib.hid (hR1 w (bel_trans hB3 h))
  have HR2 := fun w (h : Below X3.heap.size X3 w) => Lib.hid (hR2 w (bel_trans hB3 h))
  have HC := fun w => Lib.hid (hC w)
  have HB3 := Lib.hid hB3
  clear hR1 hR2 hC hw1'' hw2' hw3 hat hB3 ha hb la lb hrr e1 e2 e3 e4 eta
  go_enter Tryz.func78, Tryz.ntmps78
  go_wp2_with fail
  rw [HX3.out]
  refine Go.Confl.wp_region_confl (by simp only [List.map_cons, List.map_nil]; rfl) (by kernel_rfl) (by kernel_rfl) ?_
  iterate 16
    first
    | (refine Go.Confl.chain_skip (Go.Confl.unwanted_is rfl rfl) ?_)
    | (first | apply Go.Confl.chain_is _ (Go.Confl.wanted_none rfl) | apply Go.Confl.chain_is _ (Go.Confl.wanted_is rfl rfl)
       · intro b w hr hb K hK
         simp [Go.Confl.readFacts, Go.Confl.tmpsOf, Go.Confl.writerOf, Go.Confl.Is, Op.operands, Call.operands, List.findIdx?, List.findIdx?.go] at hr
         obtain ⟨⟨v0, v1, -, -⟩, ⟨m0, m1, -, -⟩, ⟨n0, n1, -, -⟩, ⟨k0, k1, k2, k3⟩, -⟩ := HV.out _ hb
         simp only at k0 k1 k2 k3
         go_wp2_with (first
           | (go_at_call 87; (with_reducible refine (HR1 _ hb).out.mono ?_); rintro e w' ⟨rfl, hb'⟩)
           | (go_at_call 87; (with_reducible refine (HR2 _ hb).out.mono ?_); rintro e w' ⟨rfl, hb'⟩)
           | (go_at_call 115; (with_reducible refine (HC _).out.mono ?_); rintro e w' ⟨rfl, hb'⟩))
         try (simp only [hr]; go_wp2)
         exact hK _ _ rfl (by first | exact Below.refl _ _ | assumption))
    simp only [List.nil_append, List.cons_append]
  intro us w hp hb
  simp [Go.Confl.allPosts, Go.Confl.Is] at hp
  simp only [Go.Confl.putsFrom, hp, Act.put, List.setIfInBounds_toArray, List.set_cons_zero, List.set_cons_succ]
  go_wp2
  go_ret
  exact RetB.mk rfl (bel_trans HB3.out hb)
set_option maxRecDepth 100000 in
set_option maxHeartbeats 1000000 in
theorem bsorted_any (cs : List Col) (v : Value) (key : Int) (x : Value) (l : List Rc) (W : World) (hr : RdC W W.heap.size v cs) (hx : RdR W W.heap.size x l) :
    Calls Tryz.prog 36 #[.agg #[v, .int .i64 key], x] W (RetB (.bool (srtdB cs key l)) W) := by
  obtain ⟨A, c, n, rfl, hn, hnc, hcm⟩ := hx.bds
  have HN := Lib.hid hn; clear hn
  have HX := Lib.hid hx; have HR := Lib.hid hr
  clear hx hr
  have HV := Lib.hid (Var2.new W v (.int .i64 key) 24)
  have HB1 := Lib.hid ((Below.refl W.heap.size W).alloc (Nat.le_refl _) (.cells #[v, .int .i64 key] 24))
  have HS1 := Lib.hid (show (W.alloc (.cells #[v, .int .i64 key] 24)).heap.size = W.heap.size + 1 from by simp)
  have hVal := aval_any cs v key (.slice A n c) l (W.alloc (.cells #[v, .int .i64 key] 24)) (HR.out.step HB1.out) (HX.out.step HB1.out)
  obtain ⟨v0, v1, _, _⟩ := id HV.out
  go_enter Tryz.func36, Tryz.ntmps36
  cases hv : valR cs key l with
  | false =>
    rw [srtdB_inv hv]
    rw [hv] at hVal
    have hVal := Lib.hid hVal
    clear hv
    go_wp2_with fail
    (with_reducible refine hVal.out.mono ?_); rintro e w1 ⟨rfl, hb1⟩
    go_wp2_with fail
    go_ret
    exact RetB.mk rfl (bel_trans HB1.out hb1)
  | true =>
    rw [srtdB_val hv]
    rw [hv] at hVal
    have hVal := Lib.hid hVal
    obtain ⟨hck, hall⟩ := valR_sound hv
    obtain ⟨-, -, -, hk0, hk1⟩ := chkS_ok hck
    obtain ⟨k, rfl⟩ : ∃ k : Nat, key = k := ⟨key.toNat, by omega⟩
    have hkl : k < cs.length := by omega
    have HALL := Lib.hid hall; have HKL := Lib.hid hkl
    clear hv hck hall hk0 hk1 hkl
    rw [show keyT cs (k : Int) = (cs.getD k col0).ty from rfl, Int.toNat_natCast]
    have HBAD := fun i a b => Lib.hid (ascR_bad (ty := (cs.getD k col0).ty) (k := k) (l := l) (i := i) (a := a) (b := b))
    have HOK := Lib.hid (ascR_ok (ty := (cs.getD k col0).ty) (k := k) (l := l))
    generalize ascR (cs.getD k col0).ty k l = E at *
    generalize hTY : (cs.getD k col0).ty = TY at *
    have HTY := Lib.hid hTY; clear hTY
    go_wp2_with fail
    (with_reducible refine hVal.out.mono ?_); rintro e w1 ⟨rfl, hb1⟩
    have HBb := Lib.hid (show Below (W.heap.size + 1) (W.alloc (.cells #[v, .int .i64 (k : Int)] 24)) w1 from hb1.mono (by rw [HS1.out]; omega))
    clear hb1 hVal v0 v1
    go_wp2_with fail
    go_loopw [4, 5] (fun r i wr => ∃ j : Nat, r = .bool false ∧ i = .int .i64 ((j : Int) + 1) ∧ (j < n ∨ j = 0) ∧ Below (W.heap.size + 1) (W.alloc (.cells #[v, .int .i64 (k : Int)] 24)) wr ∧ Hid (∀ (m : Nat) (a b : Rc), m + 1 < j + 1 → l[m]? = some a → l[m + 1]? = some b → cmpRec TY k a b < 0)) (fun _ i _ => n + 1 - (intOf i).toNat)
    case atStart => exact ⟨0, rfl, rfl, .inr rfl, HBb.out, Lib.hid fun m a b h => absurd h (by omega)⟩
    case round =>
      clear HBb
      obtain ⟨j, rfl, rfl, hj, hbel, HF⟩ := hrel
      have hbW : Below W.heap.size W wr := HB1.out.trans (hbel.mono (Nat.le_succ _))
      have hsz := hbel.size
      rw [HS1.out] at hsz
      by_cases hlt : j + 1 < n
      · have hjl : j < l.length := by have := HN.out; omega
        have hjl1 : j + 1 < l.length := by have := HN.out; omega
        have hl1 : l[j]? = some l[j] := List.getElem?_eq_getElem hjl
        have hl2 : l[j + 1]? = some l[j + 1] := List.getElem?_eq_getElem hjl1
        obtain ⟨ad, rA, rn, rc, rfl, -, q0, q1, -, qr⟩ := (HX.out.below hbW).at hl1
        obtain ⟨ad', rA', rn', rc', he, -, p0, p1, -, pr⟩ := (HX.out.below hbW).at hl2
        cases he
        have HJ1 := Lib.hid hl1; have HJ2 := Lib.hid hl2; clear hl1 hl2
        generalize l[j] = R at q0 q1 qr HJ1
        generalize l[j + 1] = T at p0 p1 pr HJ2
        clear hjl hjl1
        have HQ := fun w (h : Below wr.heap.size wr w) => Lib.hid (isLess_any cs v k R T _ _ w ((HR.out.step hbW).step h) HKL.out ((qr.more (by omega : W.heap.size ≤ wr.heap.size)).step h) ((pr.more (by omega : W.heap.size ≤ wr.heap.size)).step h) (okRec_sound (HALL.out R (List.mem_of_getElem? HJ1.out))).2.2 (okRec_sound (HALL.out T (List.mem_of_getElem? HJ2.out))).2.2)
        rw [HTY.out] at HQ
        have HV2 := fun w (h : Below wr.heap.size wr w) => Lib.hid (And.intro ((HV.out.below hbel (Nat.lt_succ_self _)).step h) (And.intro (hbel.trans (h.mono (by omega))) (Nat.zero_le 0)))
        have HQC := fun w (h : Below wr.heap.size wr w) => Lib.hid (show w.cell? (ad.add (j * 2)) = some (.int .i64 R.seq) ∧ w.cell? ⟨(ad.add (j * 2)).block, (ad.add (j * 2)).off + 1, none⟩ = some (.slice rA rn rc) ∧ w.cell? (ad.add ((j + 1) * 2)) = some (.int .i64 T.seq) ∧ w.cell? ⟨(ad.add ((j + 1) * 2)).block, (ad.add ((j + 1) * 2)).off + 1, none⟩ = some (.slice rA' rn' rc') from by
          have hlt := World.block_lt_of_cell? wr _ q0
          rw [Go.VB.block_add] at hlt
          refine ⟨?_, ?_, ?_, ?_⟩
          · rw [h.cell (by rw [Go.VB.block_add]; exact hlt)]; exact q0
          · rw [h.cell (p := ⟨(ad.add (j * 2)).block, _, none⟩) (by show (ad.add (j * 2)).block < _; rw [Go.VB.block_add]; exact hlt)]; exact q1
          · rw [h.cell (by rw [Go.VB.block_add]; exact hlt)]; exact p0
          · rw [h.cell (p := ⟨(ad.add ((j + 1) * 2)).block, _, none⟩) (by show (ad.add ((j + 1) * 2)).block < _; rw [Go.VB.block_add]; exact hlt)]; exact p1)
        generalize R.seq = qa at *
        generalize T.seq = qb at *
        have hsub : wrap64 ((j : Int) + 1 - 1) = (j : Int) := by unfold wrap64; omega
        have hlt' : (j : Int) + 1 < (n : Int) := by omega
        clear q0 q1 p0 p1 qr pr
        by_cases hc : cmpRec TY k R T < 0
        · have hd : decide (cmpRec TY k R T < 0) = true := decide_eq_true hc
          rw [hd] at HQ
          have HN2 := Lib.hid (snoc_asc (p := fun _ a b => cmpRec TY k a b < 0) HF.out HJ1.out HJ2.out hc)
          clear hd hc
          go_wp2_with fail
          refine Go.Confl.wp_region_confl (by simp only [List.map_cons, List.map_nil]; rfl) (by kernel_rfl) (by kernel_rfl) ?_
          iterate 12
            first
            | (refine Go.Confl.chain_skip (Go.Confl.unwanted_is rfl rfl) ?_)
            | (first | apply Go.Confl.chain_is _ (Go.Confl.wanted_none rfl) | apply Go.Confl.chain_is _ (Go.Confl.wanted_is rfl rfl)
               · intro b w hr hb K hK
                 simp [Go.Confl.readFacts, Go.Confl.tmpsOf, Go.Confl.writerOf, Go.Confl.Is, Op.operands, Call.operands, List.findIdx?, List.findIdx?.go] at hr
                 obtain ⟨⟨v0, v1, -, -⟩, -, -⟩ := (HV2 _ hb).out
                 obtain ⟨q0, q1, p0, p1⟩ := (HQC _ hb).out
                 go_wp2_with (first
                   | (go_at_call 78; (with_reducible refine (HQ _ hb).out.mono ?_); rintro e w' ⟨rfl, hb'⟩))
                 try (simp only [hr]; go_wp2)
                 exact hK _ _ rfl (by first | exact Below.refl _ _ | assumption))
            simp only [List.nil_append, List.cons_append]
          intro us w hp hb
          simp [Go.Confl.allPosts, Go.Confl.Is] at hp
          simp only [Go.Confl.putsFrom, hp, Act.put, List.setIfInBounds_toArray, List.set_cons_zero, List.set_cons_succ]
          obtain ⟨-, hb3, -⟩ := (HV2 _ hb).out
          clear hb HQ HQC
          go_wp2_with fail
          go_roundw
          case rel => exact ⟨j + 1, rfl, by go_num, .inl hlt, hb3, HN2⟩
          case measure => simp [intOf] <;> omega
        · have hd : decide (cmpRec TY k R T < 0) = false := decide_eq_false hc
          rw [hd] at HQ
          have HE := Lib.hid ((HBAD j R T).out HJ1.out HJ2.out (by omega))
          clear hd hc
          go_wp2_with fail
          refine Go.Confl.wp_region_confl (by simp only [List.map_cons, List.map_nil]; rfl) (by kernel_rfl) (by kernel_rfl) ?_
          iterate 12
            first
            | (refine Go.Confl.chain_skip (Go.Confl.unwanted_is rfl rfl) ?_)
            | (first | apply Go.Confl.chain_is _ (Go.Confl.wanted_none rfl) | apply Go.Confl.chain_is _ (Go.Confl.wanted_is rfl rfl)
               · intro b w hr hb K hK
                 simp [Go.Confl.readFacts, Go.Confl.tmpsOf, Go.Confl.writerOf, Go.Confl.Is, Op.operands, Call.operands, List.findIdx?, List.findIdx?.go] at hr
                 obtain ⟨⟨v0, v1, -, -⟩, -, -⟩ := (HV2 _ hb).out
                 obtain ⟨q0, q1, p0, p1⟩ := (HQC _ hb).out
                 go_wp2_with (first
                   | (go_at_call 78; (with_reducible refine (HQ _ hb).out.mono ?_); rintro e w' ⟨rfl, hb'⟩))
                 try (simp only [hr]; go_wp2)
                 exact hK _ _ rfl (by first | exact Below.refl _ _ | assumption))
            simp only [List.nil_append, List.cons_append]
          intro us w hp hb
          simp [Go.Confl.allPosts, Go.Confl.Is] at hp
          simp only [Go.Confl.putsFrom, hp, Act.put, List.setIfInBounds_toArray, List.set_cons_zero, List.set_cons_succ]
          obtain ⟨-, hb3, -⟩ := (HV2 _ hb).out
          clear hb HQ HQC HF HBAD HOK
          go_wp2_with fail
          go_ret
          exact RetB.mk (by first | (rw [HE.out]; rfl) | rw [HE.out]) (HB1.out.trans (hb3.mono (Nat.le_succ _)))
      · have HE := Lib.hid (HOK.out (fun m a b h1 h2 => HF.out m a b (by have := (List.getElem?_eq_some_iff.1 h2).1; have := HN.out; omega) h1 h2))
        clear HF HBAD HOK
        have hd : decide ((j : Int) + 1 < (n : Int)) = false := decide_eq_false (by omega)
        go_wp2
        go_ret
        exact RetB.mk (by first | (rw [HE.out]; rfl) | rw [HE.out]) hbW
end Go.Proofs.YtnmlajmaffiigaaGreatDoor
