/- The walk over package wide's text of a number. -/
import Derived.Test.YtollobhkdbodlaaWidW2
import Derived.Test.YtollobhkdbodlaaWidW5
import Derived.Test.YtollobhkdbodlaaWidW8
import Derived.Test.YtollobhkdbodlaaConfl3
namespace Go.WD
open Go.VB Go.DT Go.DC Go.RowKit
/-- The row that holds l at its end. -/
def row39 (l : List Nat) : List Nat := List.replicate (39 - l.length) 0 ++ l
theorem row39_len {l : List Nat} (h : l.length ≤ 39) : (row39 l).length = 39 := by unfold row39; rw [List.length_append, List.length_replicate]; omega
theorem row39_put (l : List Nat) (q x : Nat) (h : l.length + q + 1 = 39) : (row39 l).set q x = row39 (x :: l) := by
  have := row_put l 39 x (by omega)
  rw [show 39 - 1 - l.length = q from by omega] at this
  exact this
theorem row39_drop (l : List Nat) (q : Nat) (h : l.length + q = 39) : (row39 l).drop q = l := by
  unfold row39
  rw [show 39 - l.length = q from by omega]
  exact List.drop_left' (List.length_replicate ..)
theorem grown_set (W : World) (a : Addr) (v : Value) : W.grownBy (W.setCell a v) (some a.block) :=
  ⟨rfl, rfl, rfl, by simp [World.setCell], fun k _ hk => Below.heap_setCell _ _ _ k (fun e => hk (by rw [e]))⟩
theorem RowN.set2 {k : IntKind} {e : TypeId} {w : World} {base g c b : Nat} {l : List Nat} (h : RowN k e w base g c l) (hne : g ≠ b) (x y : Value) : RowN k e ((w.setCell ⟨b, 0, none⟩ x).setCell ⟨b, 1, none⟩ y) base g c l :=
  World.ownsRow.kept (World.ownsRow.kept h (grown_set w ⟨b, 0, none⟩ x) (.inr (by simp only [Value.ownBlock]; exact fun e => hne (Option.some.inj e)))) (grown_set _ ⟨b, 1, none⟩ y) (.inr (by simp only [Value.ownBlock]; exact fun e => hne (Option.some.inj e)))
theorem Var2.row {w : World} {b g : Nat} {x y : Value} (h : Var2 w b x y) (hne : b ≠ g) (j : Nat) (v : Value) : Var2 (w.setCell ⟨g, j, none⟩ v) b x y := by
  have hk : ∀ (i : Nat), (⟨g, j, none⟩ : Addr) ≠ ⟨b, i, none⟩ := fun i e => hne (congrArg Addr.block e).symm
  constructor
  · rw [World.cell?_setCell_other _ _ _ _ (hk _)]; exact h.c0
  · rw [World.cell?_setCell_other _ _ _ _ (hk _)]; exact h.c1
  · rw [World.frozen?_setCell]; exact h.f0
  · rw [World.frozen?_setCell]; exact h.f1
/-- string(row[q:]) of a row whose end is known. -/
theorem run_string_row39 {P : Program} {w : World} (src dst e : TypeId) {base g q : Nat} {l : List Nat}
    (hs : P.underlying src = some (.slice e)) (he : P.underlying e = some (.int .u8)) (hd : P.underlying dst = some .string) (h : RowN .u8 e w base g 39 (row39 l)) (hl : ∀ x ∈ l, x < 256) (hq : l.length + q = 39) :
    (convert src dst (.slice (some ⟨g, q, none⟩) (39 - q) (39 - q))).run P w = .ok (.string (str (by8 l))) w := by
  refine run_string_of_row w src dst e _ _ _ (by8 l) hs he hd (by rw [by8_len]; omega) ?_
  have hv : (by8 l).map (fun b => Value.int .u8 (b.toNat : Int)) = nvs .u8 l := by
    unfold by8
    rw [List.map_map]
    refine List.map_congr_left fun x hx => ?_
    simp only [Function.comp]
    rw [UInt8.toNat_ofNat', Nat.mod_eq_of_lt (hl x hx)]
  rw [hv]
  have := run_loadCells_list (P := P) (w := w) ⟨g, q, none⟩ (nvs .u8 l) (by
    intro j v hj
    have hjl : j < l.length := by
      rcases Nat.lt_or_ge j l.length with h1 | h1
      · exact h1
      · rw [List.getElem?_eq_none (by rw [nvs_len]; exact h1)] at hj; cases hj
    rw [nvs_get .u8 l j hjl] at hj
    have hc := h.cell (q + j) (by rw [row39_len (by omega)]; omega)
    have hd := congrArg (fun r => r.getD j 0) (row39_drop l q hq)
    simp only [List.getD_eq_getElem?_getD, List.getElem?_drop] at hd
    rw [List.getD_eq_getElem?_getD, hd, ← List.getD_eq_getElem?_getD] at hc
    rw [show (⟨g, q, none⟩ : Addr).add j = ⟨g, q + j, none⟩ from by simp [Addr.add], hc]
    exact hj)
  rw [nvs_len, show l.length = 39 - q from by omega] at this
  exact this
theorem div_next (m j : Nat) : m / 10 ^ j / 10 = m / 10 ^ (j + 1) := by rw [Nat.div_div_eq_div_mul, ← Nat.pow_succ]
/-- Whether digits are left. -/
theorem left_iff {m j : Nat} : m / 10 ^ j = 0 ↔ len m ≤ j := div_pow_zero
theorem halves_zero {u : Nat} (h : u < 340282366920938463463374607431768211456) : (hi (u : Int) = 0 ∧ lo (u : Int) = 0) ↔ u = 0 := by
  unfold hi lo wrap64; omega
theorem halves_zero2 {u : Nat} (h : u < 340282366920938463463374607431768211456) : (hi (u : Int) = hi 0 ∧ lo (u : Int) = lo 0) ↔ u = 0 := by
  unfold hi lo wrap64; omega
end Go.WD
namespace Go.Proofs.Ytollobhkdbodlaa
open Go.RowKit Go.VB Go.WD Go.DT Go.DC
set_option maxRecDepth 100000 in
set_option maxHeartbeats 400000 in
theorem guard_a (p u z1 z2 : Int) (w : World) : (eqGuard .neq 24 (.tmp 23) (.tmp 24) (.agg #[.int .i64 p, .int .u64 u]) (.agg #[.int .i64 z1, .int .u64 z2])).run Try.prog w = .ok () w := by
  go_simp
set_option maxRecDepth 100000 in
set_option maxHeartbeats 400000 in
theorem neq_a (p u z1 z2 : Int) (w : World) (hd : (p == z1) = false) : (binOp .neq 24 (.agg #[.int .i64 p, .int .u64 u]) (.agg #[.int .i64 z1, .int .u64 z2])).run Try.prog w = .ok (.bool true) w := by
  go_simp
set_option maxRecDepth 100000 in
set_option maxHeartbeats 400000 in
theorem neq_b (u z1 z2 : Int) (w : World) (hd : (u == z2) = false) : (binOp .neq 24 (.agg #[.int .i64 z1, .int .u64 u]) (.agg #[.int .i64 z1, .int .u64 z2])).run Try.prog w = .ok (.bool true) w := by
  go_simp
theorem neq_step (p u z1 z2 : Int) {b : Act} {w : World} {K : Act → World → Prop} {Q : Exit → Act → World → Prop} {o : Oper} (n m : Nat) (hop : o.op = .binOp .neq 24 (.tmp n) (.tmp m) 24)
    (hn : b.tmps[n]?.getD undef = .agg #[.int .i64 p, .int .u64 u]) (hm : b.tmps[m]?.getD undef = .agg #[.int .i64 z1, .int .u64 z2]) (hg : (eqGuard .neq 24 (.tmp n) (.tmp m) (.agg #[.int .i64 p, .int .u64 u]) (.agg #[.int .i64 z1, .int .u64 z2])).run Try.prog w = .ok () w) (hne : (binOp .neq 24 (.agg #[.int .i64 p, .int .u64 u]) (.agg #[.int .i64 z1, .int .u64 z2])).run Try.prog w = .ok (.bool true) w)
    (h : K (b.put o.dst (.bool true)) w) : o.wp Try.prog b w K Q := by
  unfold Oper.wp
  have e1 : b.tmps.getD n undef = .agg #[.int .i64 p, .int .u64 u] := by rw [← hn]; simp
  have e2 : b.tmps.getD m undef = .agg #[.int .i64 z1, .int .u64 z2] := by rw [← hm]; simp
  simp only [execOp, hop, Act.eval, e1, e2]
  simp [Sem.run_bind, hg, hne, Result.andThen, Oper.upon]
  exact h
set_option maxRecDepth 100000 in
set_option maxHeartbeats 4000000 in
theorem wformat_any (z : Int) (w : World) (hz : W128 z) : Calls Try.prog 15 #[wd z] w (RetB (.string (FT z)) w) := by
  have h0 := fun w => Lib.hid (wof_any 0 w (by unfold I64w; omega))
  simp only [wd_is] at h0
  have hzz := fun (u : Nat) (hu : u < 340282366920938463463374607431768211456) => halves_zero2 hu
  generalize gz1 : hi 0 = z1 at h0 hzz
  generalize gz2 : lo 0 = z2 at h0 hzz
  have GZ1 := Lib.hid gz1; have GZ2 := Lib.hid gz2; clear gz1 gz2
  have HZZ := Lib.hid hzz; clear hzz
  by_cases hn : z < 0
  · obtain ⟨m, rfl⟩ : ∃ m : Nat, z = -(m : Int) := ⟨z.natAbs, by omega⟩
    have hm : m ≤ 170141183460469231731687303715884105728 := by unfold W128 at hz; omega
    have hcat : str (by8 (45 :: dg m (nd m))) = ⟨#[45]⟩ ++ str (by8 (dg m (nd m))) := by
      rw [show (⟨#[45]⟩ : ByteArray) = str [45] from rfl, str_append]; rfl
    rw [ft_neg hn, show (-(m : Int)).natAbs = m from by omega, wd_is]
    have hneg : decide (hi (-(m : Int)) < 0) = true := decide_eq_true (by unfold W128 at hz; unfold hi wrap64; omega)
    have hN := fun w => Lib.hid (wneg_any (-(m : Int)) w)
    rw [Int.neg_neg] at hN
    simp only [wd_is] at hN
    have hmk := fun w => run_makeN (P := Try.prog) Try.underlying38 Try.inf8 39 (by decide) (by decide) w
    simp only [show ((39 : Nat) : Int) = 39 from rfl] at hmk
    clear hz hn
    generalize hi (-(m : Int)) = p0 at *
    generalize lo (-(m : Int)) = u0 at *
    have v0 := Var2.new (w.alloc (.cells #[.int .i64 p0, .int .u64 u0] 24)) (.int .i64 p0) (.int .u64 u0) 24
    have hb0 : Below w.heap.size w ((w.alloc (.cells #[.int .i64 p0, .int .u64 u0] 24)).alloc (.cells #[.int .i64 p0, .int .u64 u0] 24)) := by go_grown
    rw [alloc_sz] at v0
    go_enter Try.func15, Try.ntmps15
    go_wp2_with fail
    refine (hN _).out.mono ?_
    rintro e w1 ⟨rfl, hb1⟩
    replace hb0 := bel_trans hb0 hb1
    replace v0 := v0.step hb1
    clear hb1 hN
    have hl2 := hb0.size
    have hl1 : w.heap.size ≤ w.heap.size + 1 := by omega
    have hne : w1.heap.size ≠ w.heap.size + 1 := Nat.ne_of_gt v0.lt
    have v3 := v0.set (.int .i64 (hi (m : Int))) (.int .u64 (lo (m : Int)))
    have hb3 := set2_below hb0 hl1 (.int .i64 (hi (m : Int))) (.int .u64 (lo (m : Int)))
    have v4 := v3.alloc (.cells (madeCells #[.int .u8 0] 39) 5)
    have hb4 := hb3.alloc (by simp <;> omega) (.cells (madeCells #[.int .u8 0] 39) 5)
    have hrow := RowN.made .u8 5 ((w1.setCell ⟨w.heap.size + 1, 0, none⟩ (.int .i64 (hi (m : Int)))).setCell ⟨w.heap.size + 1, 1, none⟩ (.int .u64 (lo (m : Int)))) w.heap.size 39 (by simp <;> omega) (by decide)
    simp only [World.size_setCell] at hrow
    obtain ⟨k0, k1, k2, k3⟩ := v0
    go_wp2_with fail
    clear hmk k0 k1 k2 k3 v3 hb3 hb0
    generalize ((w1.setCell ⟨w.heap.size + 1, 0, none⟩ (.int .i64 (hi (m : Int)))).setCell ⟨w.heap.size + 1, 1, none⟩ (.int .u64 (lo (m : Int)))).alloc (.cells (madeCells #[.int .u8 0] 39) 5) = w4 at *
    generalize w1.heap.size = g at *
    generalize w.heap.size + 1 = b at *
    have hb0 := hb4; clear hb4
    go_loopw [6] (fun st wr => ∃ j q : Nat, st = .int .i64 q ∧ q + j = 39 ∧ j ≤ nd m ∧ Var2 wr b (.int .i64 (hi ((m / 10 ^ j : Nat) : Int))) (.int .u64 (lo ((m / 10 ^ j : Nat) : Int))) ∧ RowN .u8 5 wr w.heap.size g 39 (row39 (dg m j)) ∧ Below w.heap.size w wr) (fun st _ => (intOf st).toNat)
    case atStart => exact ⟨0, 39, rfl, rfl, Nat.zero_le _, by rw [Nat.pow_zero, Nat.div_one]; exact v4, hrow, hb0⟩
    case round =>
      clear v4 hb0 hrow
      obtain ⟨j, q, rfl, hq, hj, v4, hrow, hbel⟩ := hrel
      have hdn := div_next m j
      have hmj : m / 10 ^ j ≤ m := Nat.div_le_self _ _
      have hlen := row39_len (l := dg m j) (by rw [dg_len]; omega)
      have hle := left_iff (m := m) (j := j)
      have hnd : nd m = max 1 (len m) := rfl
      have hn39 := nd_max hm
      by_cases hgo : j = 0 ∨ m / 10 ^ j ≠ 0
      · obtain ⟨q, rfl⟩ : ∃ q', q = q' + 1 := ⟨q - 1, by omega⟩
        have hj1 : j + 1 ≤ nd m := by omega
        have hC := fun w => Lib.hid (wcut_any (m / 10 ^ j) w (by omega))
        rw [hdn] at hC
        have hd1 : dg m (j + 1) = (48 + m / 10 ^ j % 10) :: dg m j := rfl
        have hput := row39_put (dg m j) q (48 + m / 10 ^ j % 10) (by rw [dg_len]; omega)
        rw [← hd1] at hput
        have HP := Lib.hid hput; have HL := Lib.hid hlen
        have hz := HZZ.out (m / 10 ^ j) (by omega)
        simp only [wd_is] at hC
        clear hput hlen hd1 hdn hnd hle hmj
        generalize hY : m / 10 ^ (j + 1) = Y at *
        have HY := Lib.hid hY; clear hY
        generalize m / 10 ^ j = X at *
        generalize g1 : hi (Y : Int) = p' at *
        generalize g2 : lo (Y : Int) = u' at *
        have G1 := Lib.hid g1; have G2 := Lib.hid g2; clear g1 g2
        generalize hi (X : Int) = p at *
        generalize lo (X : Int) = u at *
        generalize hD : 48 + X % 10 = D at *
        have hD2 : D ≤ 57 := by omega
        clear hD
        have hV := fun (w' : World) (hb : Below wr.heap.size wr w') => Lib.hid (And.intro (v4.step hb) (And.intro (hrow.below hb) (bel_trans hbel hb)))
        by_cases hj0 : j = 0
        · subst hj0
          obtain rfl : q = 38 := by omega
          clear hgo hz
          go_wp2_with fail
          refine Go.Confl.wp_region_confl (by simp only [List.map_cons, List.map_nil]; rfl) (by kernel_rfl) (by kernel_rfl) ?_
          iterate 9
            first
            | (refine Go.Confl.chain_skip (Go.Confl.unwanted_is rfl rfl) ?_)
            | (first | apply Go.Confl.chain_is _ (Go.Confl.wanted_none rfl) | apply Go.Confl.chain_is _ (Go.Confl.wanted_is rfl rfl)
               · intro b w hr hb K hK
                 simp [Go.Confl.readFacts, Go.Confl.tmpsOf, Go.Confl.writerOf, Go.Confl.Is, Op.operands, Call.operands, List.findIdx?, List.findIdx?.go] at hr
                 go_wp2_with (first
                   | fail)
                 try (simp only [hr]; go_wp2)
                 exact hK _ _ rfl (by first | exact Below.refl _ _ | assumption))
            simp only [List.nil_append, List.cons_append]
          intro us w hp hb
          simp [Go.Confl.allPosts, Go.Confl.Is] at hp
          simp only [Go.Confl.putsFrom, hp, Act.put, List.setIfInBounds_toArray, List.set_cons_zero, List.set_cons_succ]
          obtain ⟨⟨a0, a1, -, -⟩, -, -⟩ := (hV _ hb).out
          go_wp2_with fail
          clear a0 a1
          refine (hC _).out.mono ?_
          rintro e w5 ⟨rfl, hb5⟩
          have hb5' : Below wr.heap.size wr w5 := bel_trans hb hb5
          obtain ⟨v5, r5, b5⟩ := (hV w5 hb5').out
          have v6 := (v5.set (.int .i64 p') (.int .u64 u')).row (Ne.symm hne) 38 (.int .u8 (D : Int))
          have r6 := RowN.set2 r5 hne (.int .i64 p') (.int .u64 u')
          have hc := r6.cell 38 (by rw [HL.out]; omega)
          have hf := r6.frozen 38
          have r7 := r6.store 38 D
          rw [HP.out] at r7
          have b7 := (set2_below b5 hl1 (.int .i64 p') (.int .u64 u')).setCell (p := ⟨g, 38, none⟩) hl2 (.int .u8 (D : Int))
          generalize (row39 (dg m 0)).getD 38 0 = V at hc
          obtain ⟨k0, k1, k2, k3⟩ := v5
          clear hV hrow v4 hbel hC HL HP r5 r6 b5 hb5 hb5'
          go_wp2
          exact ⟨⟨0 + 1, 38, by go_num, by omega, hj1, v6.cast (by rw [HY.out, G1.out]) (by rw [HY.out, G2.out]), r7, b7⟩, by simp [intOf] <;> omega⟩
        · have hq39 : ((q + 1 : Nat) : Int) ≠ 39 := by omega
          have hX : X ≠ 0 := by omega
          have hpu : ¬ (p = z1 ∧ u = z2) := fun h => hX (hz.1 h)
          obtain ⟨a0, a1, -, -⟩ := (hV wr (Below.refl _ _)).out.1
          have hqd : (((q + 1 : Nat) : Int) == 39) = false := beq_eq_false_iff_ne.2 hq39
          rw [show ((q + 1 : Nat) : Int) = (q : Int) + 1 from rfl] at hqd
          have hq2 : q + 1 < 39 := by omega
          clear hgo hz hX hq39
          by_cases hp : p = z1
          · subst hp
            have hd : (u == z2) = false := beq_eq_false_iff_ne.2 (fun h => hpu ⟨rfl, h⟩)
            clear hpu
            go_wp2_with fail
            refine Go.Confl.wp_region_confl (by simp only [List.map_cons, List.map_nil]; rfl) (by kernel_rfl) (by kernel_rfl) ?_
            iterate 7
              first
              | (refine Go.Confl.chain_skip (Go.Confl.unwanted_is rfl rfl) ?_)
              | (first | apply Go.Confl.chain_is _ (Go.Confl.wanted_none rfl) | apply Go.Confl.chain_is _ (Go.Confl.wanted_is rfl rfl)
                 · intro b w hr hb K hK
                   simp [Go.Confl.readFacts, Go.Confl.tmpsOf, Go.Confl.writerOf, Go.Confl.Is, Op.operands, Call.operands, List.findIdx?, List.findIdx?.go] at hr
                   obtain ⟨b0, b1, -, -⟩ := (hV _ hb).out.1
                   go_wp2_with (first
                     | (go_at_call 13; (with_reducible refine (h0 _).out.mono ?_); rintro e w' ⟨rfl, hb'⟩))
                   try (simp only [hr]; go_wp2)
                   exact hK _ _ rfl (by first | exact Below.refl _ _ | assumption))
              simp only [List.nil_append, List.cons_append]
            refine Go.Confl.chain_is (.bool true) (Go.Confl.wanted_is rfl rfl) ?_ ?_
            · intro b w hr hb K hK
              simp [Go.Confl.readFacts, Go.Confl.tmpsOf, Go.Confl.writerOf, Go.Confl.Is, Op.operands, List.findIdx?, List.findIdx?.go] at hr
              exact neq_step p u p z2 23 24 rfl hr.1 hr.2 (guard_a p u p z2 w) (neq_b u p z2 w hd) (hK _ _ rfl (Below.refl _ _))
            simp only [List.nil_append, List.cons_append]
            iterate 1
              first
              | (refine Go.Confl.chain_skip (Go.Confl.unwanted_is rfl rfl) ?_)
              | (first | apply Go.Confl.chain_is _ (Go.Confl.wanted_none rfl) | apply Go.Confl.chain_is _ (Go.Confl.wanted_is rfl rfl)
                 · intro b w hr hb K hK
                   simp [Go.Confl.readFacts, Go.Confl.tmpsOf, Go.Confl.writerOf, Go.Confl.Is, Op.operands, List.findIdx?, List.findIdx?.go] at hr
                   go_wp2_with fail
                   try (simp only [hr]; go_wp2)
                   exact hK _ _ rfl (by first | exact Below.refl _ _ | assumption))
              simp only [List.nil_append, List.cons_append]
            intro us w hp hb
            simp [Go.Confl.allPosts, Go.Confl.Is] at hp
            simp only [Go.Confl.putsFrom, hp, Act.put, List.setIfInBounds_toArray, List.set_cons_zero, List.set_cons_succ]
            obtain ⟨⟨c0, c1, -, -⟩, -, -⟩ := (hV _ hb).out
            go_wp2_with fail
            refine (hC _).out.mono ?_
            rintro e w5 ⟨rfl, hb5⟩
            have hb5' : Below wr.heap.size wr w5 := bel_trans hb hb5
            obtain ⟨v5, r5, b5⟩ := (hV w5 hb5').out
            have v6 := (v5.set (.int .i64 p') (.int .u64 u')).row (Ne.symm hne) q (.int .u8 (D : Int))
            have r6 := RowN.set2 r5 hne (.int .i64 p') (.int .u64 u')
            have hc := r6.cell q (by rw [HL.out]; omega)
            have hf := r6.frozen q
            have r7 := r6.store q D
            rw [HP.out] at r7
            have b7 := (set2_below b5 hl1 (.int .i64 p') (.int .u64 u')).setCell (p := ⟨g, q, none⟩) hl2 (.int .u8 (D : Int))
            generalize (row39 (dg m j)).getD q 0 = V at hc
            obtain ⟨k0, k1, k2, k3⟩ := v5
            clear a0 a1 hV hrow v4 hbel hC HL HP r5 r6 b5 hb5 hb5'
            go_wp2
            exact ⟨⟨j + 1, q, by go_num, by omega, hj1, v6.cast (by rw [HY.out, G1.out]) (by rw [HY.out, G2.out]), r7, b7⟩, by simp [intOf] <;> omega⟩
          · have hd : (p == z1) = false := beq_eq_false_iff_ne.2 hp
            clear hpu hp
            go_wp2_with fail
            refine Go.Confl.wp_region_confl (by simp only [List.map_cons, List.map_nil]; rfl) (by kernel_rfl) (by kernel_rfl) ?_
            iterate 7
              first
              | (refine Go.Confl.chain_skip (Go.Confl.unwanted_is rfl rfl) ?_)
              | (first | apply Go.Confl.chain_is _ (Go.Confl.wanted_none rfl) | apply Go.Confl.chain_is _ (Go.Confl.wanted_is rfl rfl)
                 · intro b w hr hb K hK
                   simp [Go.Confl.readFacts, Go.Confl.tmpsOf, Go.Confl.writerOf, Go.Confl.Is, Op.operands, Call.operands, List.findIdx?, List.findIdx?.go] at hr
                   obtain ⟨b0, b1, -, -⟩ := (hV _ hb).out.1
                   go_wp2_with (first
                     | (go_at_call 13; (with_reducible refine (h0 _).out.mono ?_); rintro e w' ⟨rfl, hb'⟩))
                   try (simp only [hr]; go_wp2)
                   exact hK _ _ rfl (by first | exact Below.refl _ _ | assumption))
              simp only [List.nil_append, List.cons_append]
            refine Go.Confl.chain_is (.bool true) (Go.Confl.wanted_is rfl rfl) ?_ ?_
            · intro b w hr hb K hK
              simp [Go.Confl.readFacts, Go.Confl.tmpsOf, Go.Confl.writerOf, Go.Confl.Is, Op.operands, List.findIdx?, List.findIdx?.go] at hr
              exact neq_step p u z1 z2 23 24 rfl hr.1 hr.2 (guard_a p u z1 z2 w) (neq_a p u z1 z2 w hd) (hK _ _ rfl (Below.refl _ _))
            simp only [List.nil_append, List.cons_append]
            iterate 1
              first
              | (refine Go.Confl.chain_skip (Go.Confl.unwanted_is rfl rfl) ?_)
              | (first | apply Go.Confl.chain_is _ (Go.Confl.wanted_none rfl) | apply Go.Confl.chain_is _ (Go.Confl.wanted_is rfl rfl)
                 · intro b w hr hb K hK
                   simp [Go.Confl.readFacts, Go.Confl.tmpsOf, Go.Confl.writerOf, Go.Confl.Is, Op.operands, List.findIdx?, List.findIdx?.go] at hr
                   go_wp2_with fail
                   try (simp only [hr]; go_wp2)
                   exact hK _ _ rfl (by first | exact Below.refl _ _ | assumption))
              simp only [List.nil_append, List.cons_append]
            intro us w hp hb
            simp [Go.Confl.allPosts, Go.Confl.Is] at hp
            simp only [Go.Confl.putsFrom, hp, Act.put, List.setIfInBounds_toArray, List.set_cons_zero, List.set_cons_succ]
            obtain ⟨⟨c0, c1, -, -⟩, -, -⟩ := (hV _ hb).out
            go_wp2_with fail
            refine (hC _).out.mono ?_
            rintro e w5 ⟨rfl, hb5⟩
            have hb5' : Below wr.heap.size wr w5 := bel_trans hb hb5
            obtain ⟨v5, r5, b5⟩ := (hV w5 hb5').out
            have v6 := (v5.set (.int .i64 p') (.int .u64 u')).row (Ne.symm hne) q (.int .u8 (D : Int))
            have r6 := RowN.set2 r5 hne (.int .i64 p') (.int .u64 u')
            have hc := r6.cell q (by rw [HL.out]; omega)
            have hf := r6.frozen q
            have r7 := r6.store q D
            rw [HP.out] at r7
            have b7 := (set2_below b5 hl1 (.int .i64 p') (.int .u64 u')).setCell (p := ⟨g, q, none⟩) hl2 (.int .u8 (D : Int))
            generalize (row39 (dg m j)).getD q 0 = V at hc
            obtain ⟨k0, k1, k2, k3⟩ := v5
            clear a0 a1 hV hrow v4 hbel hC HL HP r5 r6 b5 hb5 hb5'
            go_wp2
            exact ⟨⟨j + 1, q, by go_num, by omega, hj1, v6.cast (by rw [HY.out, G1.out]) (by rw [HY.out, G2.out]), r7, b7⟩, by simp [intOf] <;> omega⟩
      · have hX0 : m / 10 ^ j = 0 := Decidable.byContradiction fun h => hgo (.inr h)
        have hj0 : j ≠ 0 := fun h => hgo (.inl h)
        have hjn : nd m = j := by have := hle.1 hX0; omega
        rw [hX0, show hi ((0 : Nat) : Int) = z1 from GZ1.out, show lo ((0 : Nat) : Int) = z2 from GZ2.out] at v4
        have hV := fun (w' : World) (hb : Below wr.heap.size wr w') => Lib.hid (And.intro (v4.step hb) (And.intro (run_string_row39 (P := Try.prog) 38 9 5 Try.underlying38 Try.underlying5 Try.underlying9 (q := q) (hrow.below hb) (dg_bytes m j) (by rw [dg_len]; omega)) (bel_trans hbel hb)))
        have hq39 : ((q : Nat) : Int) ≠ 39 := by omega
        have hqd : (((q : Nat) : Int) == 39) = false := beq_eq_false_iff_ne.2 hq39
        have hq2 : q < 39 := by omega
        obtain ⟨a0, a1, -, -⟩ := v4
        clear hgo hX0 hj0 hq39 hlen hle hnd hdn hmj hrow hbel hj
        have hcat2 : str (by8 (45 :: dg m (nd m))) = ⟨#[45]⟩ ++ str (by8 (dg m j)) := by rw [hcat, hjn]
        clear hcat
        have hT : (str (by8 (dg m j))).size ≤ 39 := by rw [str_size, by8_len, dg_len]; omega
        clear hjn
        generalize str (by8 (dg m j)) = T at *
        have HCAT := Lib.hid hcat2; clear hcat2
        have hadd := fun w => run_string_add_sum (P := Try.prog) w ⟨#[45]⟩ T (by have : (⟨#[45]⟩ : ByteArray).size = 1 := rfl; omega)
        clear hT
        go_wp2_with fail
        refine Go.Confl.wp_region_confl (by simp only [List.map_cons, List.map_nil]; rfl) (by kernel_rfl) (by kernel_rfl) ?_
        iterate 9
          first
          | (refine Go.Confl.chain_skip (Go.Confl.unwanted_is rfl rfl) ?_)
          | (first | apply Go.Confl.chain_is _ (Go.Confl.wanted_none rfl) | apply Go.Confl.chain_is _ (Go.Confl.wanted_is rfl rfl)
             · intro b w hr hb K hK
               simp [Go.Confl.readFacts, Go.Confl.tmpsOf, Go.Confl.writerOf, Go.Confl.Is, Op.operands, Call.operands, List.findIdx?, List.findIdx?.go] at hr
               obtain ⟨b0, b1, -, -⟩ := (hV _ hb).out.1
               go_wp2_with (first
                 | (go_at_call 13; (with_reducible refine (h0 _).out.mono ?_); rintro e w' ⟨rfl, hb'⟩))
               try (simp only [hr]; go_wp2)
               exact hK _ _ rfl (by first | exact Below.refl _ _ | assumption))
          simp only [List.nil_append, List.cons_append]
        intro us w hp hb
        simp [Go.Confl.allPosts, Go.Confl.Is] at hp
        simp only [Go.Confl.putsFrom, hp, Act.put, List.setIfInBounds_toArray, List.set_cons_zero, List.set_cons_succ]
        obtain ⟨⟨c0, c1, -, -⟩, hcv, hbb⟩ := (hV _ hb).out
        go_wp2
        go_ret
        exact RetB.mk (by rw [HCAT.out]; rfl) hbb
  · obtain ⟨m, rfl⟩ := Int.eq_ofNat_of_zero_le (show 0 ≤ z by omega)
    have hm : m ≤ 170141183460469231731687303715884105728 := by unfold W128 at hz; omega
    rw [ft_pos hn, Int.natAbs_natCast]
    have hneg : decide (hi (m : Int) < 0) = false := decide_eq_false (by unfold W128 at hz; unfold hi wrap64; omega)
    rw [wd_is]
    have hmk := fun w => run_makeN (P := Try.prog) Try.underlying38 Try.inf8 39 (by decide) (by decide) w
    simp only [show ((39 : Nat) : Int) = 39 from rfl] at hmk
    clear hz hn
    go_enter Try.func15, Try.ntmps15
    go_wp2_with fail
    clear hmk
    have v4 := (Var2.new (w.alloc (.cells #[.int .i64 (hi (m : Int)), .int .u64 (lo (m : Int))] 24)) (.int .i64 (hi (m : Int))) (.int .u64 (lo (m : Int))) 24).alloc (.cells (madeCells #[.int .u8 0] 39) 5)
    have hb0 : Below w.heap.size w (((w.alloc (.cells #[.int .i64 (hi (m : Int)), .int .u64 (lo (m : Int))] 24)).alloc (.cells #[.int .i64 (hi (m : Int)), .int .u64 (lo (m : Int))] 24)).alloc (.cells (madeCells #[.int .u8 0] 39) 5)) := by go_grown
    have hrow := RowN.made .u8 5 ((w.alloc (.cells #[.int .i64 (hi (m : Int)), .int .u64 (lo (m : Int))] 24)).alloc (.cells #[.int .i64 (hi (m : Int)), .int .u64 (lo (m : Int))] 24)) w.heap.size 39 (by simp <;> omega) (by decide)
    simp only [alloc_sz] at v4 hrow
    generalize (((w.alloc (.cells #[.int .i64 (hi (m : Int)), .int .u64 (lo (m : Int))] 24)).alloc (.cells #[.int .i64 (hi (m : Int)), .int .u64 (lo (m : Int))] 24)).alloc (.cells (madeCells #[.int .u8 0] 39) 5)) = w4 at *
    have hne : w.heap.size + 1 + 1 ≠ w.heap.size + 1 := by omega
    have hl1 : w.heap.size ≤ w.heap.size + 1 := by omega
    have hl2 : w.heap.size ≤ w.heap.size + 1 + 1 := by omega
    generalize w.heap.size + 1 + 1 = g at *
    generalize w.heap.size + 1 = b at *
    go_loopw [6] (fun st wr => ∃ j q : Nat, st = .int .i64 q ∧ q + j = 39 ∧ j ≤ nd m ∧ Var2 wr b (.int .i64 (hi ((m / 10 ^ j : Nat) : Int))) (.int .u64 (lo ((m / 10 ^ j : Nat) : Int))) ∧ RowN .u8 5 wr w.heap.size g 39 (row39 (dg m j)) ∧ Below w.heap.size w wr) (fun st _ => (intOf st).toNat)
    case atStart => exact ⟨0, 39, rfl, rfl, Nat.zero_le _, by rw [Nat.pow_zero, Nat.div_one]; exact v4, hrow, hb0⟩
    case round =>
      clear v4 hb0 hrow
      obtain ⟨j, q, rfl, hq, hj, v4, hrow, hbel⟩ := hrel
      have hdn := div_next m j
      have hmj : m / 10 ^ j ≤ m := Nat.div_le_self _ _
      have hlen := row39_len (l := dg m j) (by rw [dg_len]; omega)
      have hle := left_iff (m := m) (j := j)
      have hnd : nd m = max 1 (len m) := rfl
      have hn39 := nd_max hm
      by_cases hgo : j = 0 ∨ m / 10 ^ j ≠ 0
      · obtain ⟨q, rfl⟩ : ∃ q', q = q' + 1 := ⟨q - 1, by omega⟩
        have hj1 : j + 1 ≤ nd m := by omega
        have hC := fun w => Lib.hid (wcut_any (m / 10 ^ j) w (by omega))
        rw [hdn] at hC
        have hd1 : dg m (j + 1) = (48 + m / 10 ^ j % 10) :: dg m j := rfl
        have hput := row39_put (dg m j) q (48 + m / 10 ^ j % 10) (by rw [dg_len]; omega)
        rw [← hd1] at hput
        have HP := Lib.hid hput; have HL := Lib.hid hlen
        have hz := HZZ.out (m / 10 ^ j) (by omega)
        simp only [wd_is] at hC
        clear hput hlen hd1 hdn hnd hle hmj
        generalize hY : m / 10 ^ (j + 1) = Y at *
        have HY := Lib.hid hY; clear hY
        generalize m / 10 ^ j = X at *
        generalize g1 : hi (Y : Int) = p' at *
        generalize g2 : lo (Y : Int) = u' at *
        have G1 := Lib.hid g1; have G2 := Lib.hid g2; clear g1 g2
        generalize hi (X : Int) = p at *
        generalize lo (X : Int) = u at *
        generalize hD : 48 + X % 10 = D at *
        have hD2 : D ≤ 57 := by omega
        clear hD
        have hV := fun (w' : World) (hb : Below wr.heap.size wr w') => Lib.hid (And.intro (v4.step hb) (And.intro (hrow.below hb) (bel_trans hbel hb)))
        by_cases hj0 : j = 0
        · subst hj0
          obtain rfl : q = 38 := by omega
          clear hgo hz
          go_wp2_with fail
          refine Go.Confl.wp_region_confl (by simp only [List.map_cons, List.map_nil]; rfl) (by kernel_rfl) (by kernel_rfl) ?_
          iterate 9
            first
            | (refine Go.Confl.chain_skip (Go.Confl.unwanted_is rfl rfl) ?_)
            | (first | apply Go.Confl.chain_is _ (Go.Confl.wanted_none rfl) | apply Go.Confl.chain_is _ (Go.Confl.wanted_is rfl rfl)
               · intro b w hr hb K hK
                 simp [Go.Confl.readFacts, Go.Confl.tmpsOf, Go.Confl.writerOf, Go.Confl.Is, Op.operands, Call.operands, List.findIdx?, List.findIdx?.go] at hr
                 go_wp2_with (first
                   | fail)
                 try (simp only [hr]; go_wp2)
                 exact hK _ _ rfl (by first | exact Below.refl _ _ | assumption))
            simp only [List.nil_append, List.cons_append]
          intro us w hp hb
          simp [Go.Confl.allPosts, Go.Confl.Is] at hp
          simp only [Go.Confl.putsFrom, hp, Act.put, List.setIfInBounds_toArray, List.set_cons_zero, List.set_cons_succ]
          obtain ⟨⟨a0, a1, -, -⟩, -, -⟩ := (hV _ hb).out
          go_wp2_with fail
          clear a0 a1
          refine (hC _).out.mono ?_
          rintro e w5 ⟨rfl, hb5⟩
          have hb5' : Below wr.heap.size wr w5 := bel_trans hb hb5
          obtain ⟨v5, r5, b5⟩ := (hV w5 hb5').out
          have v6 := (v5.set (.int .i64 p') (.int .u64 u')).row (Ne.symm hne) 38 (.int .u8 (D : Int))
          have r6 := RowN.set2 r5 hne (.int .i64 p') (.int .u64 u')
          have hc := r6.cell 38 (by rw [HL.out]; omega)
          have hf := r6.frozen 38
          have r7 := r6.store 38 D
          rw [HP.out] at r7
          have b7 := (set2_below b5 hl1 (.int .i64 p') (.int .u64 u')).setCell (p := ⟨g, 38, none⟩) hl2 (.int .u8 (D : Int))
          generalize (row39 (dg m 0)).getD 38 0 = V at hc
          obtain ⟨k0, k1, k2, k3⟩ := v5
          clear hV hrow v4 hbel hC HL HP r5 r6 b5 hb5 hb5'
          go_wp2
          exact ⟨⟨0 + 1, 38, by go_num, by omega, hj1, v6.cast (by rw [HY.out, G1.out]) (by rw [HY.out, G2.out]), r7, b7⟩, by simp [intOf] <;> omega⟩
        · have hq39 : ((q + 1 : Nat) : Int) ≠ 39 := by omega
          have hX : X ≠ 0 := by omega
          have hpu : ¬ (p = z1 ∧ u = z2) := fun h => hX (hz.1 h)
          obtain ⟨a0, a1, -, -⟩ := (hV wr (Below.refl _ _)).out.1
          have hqd : (((q + 1 : Nat) : Int) == 39) = false := beq_eq_false_iff_ne.2 hq39
          rw [show ((q + 1 : Nat) : Int) = (q : Int) + 1 from rfl] at hqd
          have hq2 : q + 1 < 39 := by omega
          clear hgo hz hX hq39
          by_cases hp : p = z1
          · subst hp
            have hd : (u == z2) = false := beq_eq_false_iff_ne.2 (fun h => hpu ⟨rfl, h⟩)
            clear hpu
            go_wp2_with fail
            refine Go.Confl.wp_region_confl (by simp only [List.map_cons, List.map_nil]; rfl) (by kernel_rfl) (by kernel_rfl) ?_
            iterate 7
              first
              | (refine Go.Confl.chain_skip (Go.Confl.unwanted_is rfl rfl) ?_)
              | (first | apply Go.Confl.chain_is _ (Go.Confl.wanted_none rfl) | apply Go.Confl.chain_is _ (Go.Confl.wanted_is rfl rfl)
                 · intro b w hr hb K hK
                   simp [Go.Confl.readFacts, Go.Confl.tmpsOf, Go.Confl.writerOf, Go.Confl.Is, Op.operands, Call.operands, List.findIdx?, List.findIdx?.go] at hr
                   obtain ⟨b0, b1, -, -⟩ := (hV _ hb).out.1
                   go_wp2_with (first
                     | (go_at_call 13; (with_reducible refine (h0 _).out.mono ?_); rintro e w' ⟨rfl, hb'⟩))
                   try (simp only [hr]; go_wp2)
                   exact hK _ _ rfl (by first | exact Below.refl _ _ | assumption))
              simp only [List.nil_append, List.cons_append]
            refine Go.Confl.chain_is (.bool true) (Go.Confl.wanted_is rfl rfl) ?_ ?_
            · intro b w hr hb K hK
              simp [Go.Confl.readFacts, Go.Confl.tmpsOf, Go.Confl.writerOf, Go.Confl.Is, Op.operands, List.findIdx?, List.findIdx?.go] at hr
              exact neq_step p u p z2 23 24 rfl hr.1 hr.2 (guard_a p u p z2 w) (neq_b u p z2 w hd) (hK _ _ rfl (Below.refl _ _))
            simp only [List.nil_append, List.cons_append]
            iterate 1
              first
              | (refine Go.Confl.chain_skip (Go.Confl.unwanted_is rfl rfl) ?_)
              | (first | apply Go.Confl.chain_is _ (Go.Confl.wanted_none rfl) | apply Go.Confl.chain_is _ (Go.Confl.wanted_is rfl rfl)
                 · intro b w hr hb K hK
                   simp [Go.Confl.readFacts, Go.Confl.tmpsOf, Go.Confl.writerOf, Go.Confl.Is, Op.operands, List.findIdx?, List.findIdx?.go] at hr
                   go_wp2_with fail
                   try (simp only [hr]; go_wp2)
                   exact hK _ _ rfl (by first | exact Below.refl _ _ | assumption))
              simp only [List.nil_append, List.cons_append]
            intro us w hp hb
            simp [Go.Confl.allPosts, Go.Confl.Is] at hp
            simp only [Go.Confl.putsFrom, hp, Act.put, List.setIfInBounds_toArray, List.set_cons_zero, List.set_cons_succ]
            obtain ⟨⟨c0, c1, -, -⟩, -, -⟩ := (hV _ hb).out
            go_wp2_with fail
            refine (hC _).out.mono ?_
            rintro e w5 ⟨rfl, hb5⟩
            have hb5' : Below wr.heap.size wr w5 := bel_trans hb hb5
            obtain ⟨v5, r5, b5⟩ := (hV w5 hb5').out
            have v6 := (v5.set (.int .i64 p') (.int .u64 u')).row (Ne.symm hne) q (.int .u8 (D : Int))
            have r6 := RowN.set2 r5 hne (.int .i64 p') (.int .u64 u')
            have hc := r6.cell q (by rw [HL.out]; omega)
            have hf := r6.frozen q
            have r7 := r6.store q D
            rw [HP.out] at r7
            have b7 := (set2_below b5 hl1 (.int .i64 p') (.int .u64 u')).setCell (p := ⟨g, q, none⟩) hl2 (.int .u8 (D : Int))
            generalize (row39 (dg m j)).getD q 0 = V at hc
            obtain ⟨k0, k1, k2, k3⟩ := v5
            clear a0 a1 hV hrow v4 hbel hC HL HP r5 r6 b5 hb5 hb5'
            go_wp2
            exact ⟨⟨j + 1, q, by go_num, by omega, hj1, v6.cast (by rw [HY.out, G1.out]) (by rw [HY.out, G2.out]), r7, b7⟩, by simp [intOf] <;> omega⟩
          · have hd : (p == z1) = false := beq_eq_false_iff_ne.2 hp
            clear hpu hp
            go_wp2_with fail
            refine Go.Confl.wp_region_confl (by simp only [List.map_cons, List.map_nil]; rfl) (by kernel_rfl) (by kernel_rfl) ?_
            iterate 7
              first
              | (refine Go.Confl.chain_skip (Go.Confl.unwanted_is rfl rfl) ?_)
              | (first | apply Go.Confl.chain_is _ (Go.Confl.wanted_none rfl) | apply Go.Confl.chain_is _ (Go.Confl.wanted_is rfl rfl)
                 · intro b w hr hb K hK
                   simp [Go.Confl.readFacts, Go.Confl.tmpsOf, Go.Confl.writerOf, Go.Confl.Is, Op.operands, Call.operands, List.findIdx?, List.findIdx?.go] at hr
                   obtain ⟨b0, b1, -, -⟩ := (hV _ hb).out.1
                   go_wp2_with (first
                     | (go_at_call 13; (with_reducible refine (h0 _).out.mono ?_); rintro e w' ⟨rfl, hb'⟩))
                   try (simp only [hr]; go_wp2)
                   exact hK _ _ rfl (by first | exact Below.refl _ _ | assumption))
              simp only [List.nil_append, List.cons_append]
            refine Go.Confl.chain_is (.bool true) (Go.Confl.wanted_is rfl rfl) ?_ ?_
            · intro b w hr hb K hK
              simp [Go.Confl.readFacts, Go.Confl.tmpsOf, Go.Confl.writerOf, Go.Confl.Is, Op.operands, List.findIdx?, List.findIdx?.go] at hr
              exact neq_step p u z1 z2 23 24 rfl hr.1 hr.2 (guard_a p u z1 z2 w) (neq_a p u z1 z2 w hd) (hK _ _ rfl (Below.refl _ _))
            simp only [List.nil_append, List.cons_append]
            iterate 1
              first
              | (refine Go.Confl.chain_skip (Go.Confl.unwanted_is rfl rfl) ?_)
              | (first | apply Go.Confl.chain_is _ (Go.Confl.wanted_none rfl) | apply Go.Confl.chain_is _ (Go.Confl.wanted_is rfl rfl)
                 · intro b w hr hb K hK
                   simp [Go.Confl.readFacts, Go.Confl.tmpsOf, Go.Confl.writerOf, Go.Confl.Is, Op.operands, List.findIdx?, List.findIdx?.go] at hr
                   go_wp2_with fail
                   try (simp only [hr]; go_wp2)
                   exact hK _ _ rfl (by first | exact Below.refl _ _ | assumption))
              simp only [List.nil_append, List.cons_append]
            intro us w hp hb
            simp [Go.Confl.allPosts, Go.Confl.Is] at hp
            simp only [Go.Confl.putsFrom, hp, Act.put, List.setIfInBounds_toArray, List.set_cons_zero, List.set_cons_succ]
            obtain ⟨⟨c0, c1, -, -⟩, -, -⟩ := (hV _ hb).out
            go_wp2_with fail
            refine (hC _).out.mono ?_
            rintro e w5 ⟨rfl, hb5⟩
            have hb5' : Below wr.heap.size wr w5 := bel_trans hb hb5
            obtain ⟨v5, r5, b5⟩ := (hV w5 hb5').out
            have v6 := (v5.set (.int .i64 p') (.int .u64 u')).row (Ne.symm hne) q (.int .u8 (D : Int))
            have r6 := RowN.set2 r5 hne (.int .i64 p') (.int .u64 u')
            have hc := r6.cell q (by rw [HL.out]; omega)
            have hf := r6.frozen q
            have r7 := r6.store q D
            rw [HP.out] at r7
            have b7 := (set2_below b5 hl1 (.int .i64 p') (.int .u64 u')).setCell (p := ⟨g, q, none⟩) hl2 (.int .u8 (D : Int))
            generalize (row39 (dg m j)).getD q 0 = V at hc
            obtain ⟨k0, k1, k2, k3⟩ := v5
            clear a0 a1 hV hrow v4 hbel hC HL HP r5 r6 b5 hb5 hb5'
            go_wp2
            exact ⟨⟨j + 1, q, by go_num, by omega, hj1, v6.cast (by rw [HY.out, G1.out]) (by rw [HY.out, G2.out]), r7, b7⟩, by simp [intOf] <;> omega⟩
      · have hX0 : m / 10 ^ j = 0 := Decidable.byContradiction fun h => hgo (.inr h)
        have hj0 : j ≠ 0 := fun h => hgo (.inl h)
        have hjn : nd m = j := by have := hle.1 hX0; omega
        rw [hX0, show hi ((0 : Nat) : Int) = z1 from GZ1.out, show lo ((0 : Nat) : Int) = z2 from GZ2.out] at v4
        have hwt : wt m = str (by8 (dg m j)) := by unfold wt; rw [hjn]
        have HW := Lib.hid hwt
        have hV := fun (w' : World) (hb : Below wr.heap.size wr w') => Lib.hid (And.intro (v4.step hb) (And.intro (run_string_row39 (P := Try.prog) 38 9 5 Try.underlying38 Try.underlying5 Try.underlying9 (q := q) (hrow.below hb) (dg_bytes m j) (by rw [dg_len]; omega)) (bel_trans hbel hb)))
        have hq39 : ((q : Nat) : Int) ≠ 39 := by omega
        have hqd : (((q : Nat) : Int) == 39) = false := beq_eq_false_iff_ne.2 hq39
        have hq2 : q < 39 := by omega
        obtain ⟨a0, a1, -, -⟩ := v4
        clear hgo hX0 hj0 hq39 hwt hlen hle hnd hdn hmj hrow hbel hjn hj
        generalize str (by8 (dg m j)) = T at *
        go_wp2_with fail
        refine Go.Confl.wp_region_confl (by simp only [List.map_cons, List.map_nil]; rfl) (by kernel_rfl) (by kernel_rfl) ?_
        iterate 9
          first
          | (refine Go.Confl.chain_skip (Go.Confl.unwanted_is rfl rfl) ?_)
          | (first | apply Go.Confl.chain_is _ (Go.Confl.wanted_none rfl) | apply Go.Confl.chain_is _ (Go.Confl.wanted_is rfl rfl)
             · intro b w hr hb K hK
               simp [Go.Confl.readFacts, Go.Confl.tmpsOf, Go.Confl.writerOf, Go.Confl.Is, Op.operands, Call.operands, List.findIdx?, List.findIdx?.go] at hr
               obtain ⟨b0, b1, -, -⟩ := (hV _ hb).out.1
               go_wp2_with (first
                 | (go_at_call 13; (with_reducible refine (h0 _).out.mono ?_); rintro e w' ⟨rfl, hb'⟩))
               try (simp only [hr]; go_wp2)
               exact hK _ _ rfl (by first | exact Below.refl _ _ | assumption))
          simp only [List.nil_append, List.cons_append]
        intro us w hp hb
        simp [Go.Confl.allPosts, Go.Confl.Is] at hp
        simp only [Go.Confl.putsFrom, hp, Act.put, List.setIfInBounds_toArray, List.set_cons_zero, List.set_cons_succ]
        obtain ⟨⟨c0, c1, -, -⟩, hcv, hbb⟩ := (hV _ hb).out
        go_wp2
        go_ret
        exact RetB.mk (by rw [HW.out]; rfl) hbb
end Go.Proofs.Ytollobhkdbodlaa
