/- The walks over package zone's areBounds and Check. -/
import Derived.Test.YthohmngckpjlbaaZoW4
namespace Go.ZN
open Go.RowKit Go.VB Go.VS Go.VL Go.CK
theorem bdok_zero (ty : Int) (nu : Bool) (a b : Vl) : bdok ty nu 0 a b = (veq a nulV && veq b nulV) := if_pos rfl
theorem bdok_prs {ty : Int} {nu : Bool} {p : Int} {a b : Vl} (hp : ¬ p = 0) : bdok ty nu p a b = (prs ty nu a && (prs ty nu b && decide (cmpV ty a b = 0 ∨ (cmpV ty a b < 0 ∧ 1 < p)))) := by
  unfold bdok
  rw [if_neg hp]
  by_cases h : a.nu = true ∨ b.nu = true ∨ chkV ty nu a ≠ 0 ∨ chkV ty nu b ≠ 0
  · rw [if_pos h]
    have : (prs ty nu a && prs ty nu b) = false := by
      unfold prs
      rcases h with h | h | h | h
      · rw [h]; rfl
      · rw [h]; cases a.nu <;> simp
      · rw [beq_eq_false_iff_ne.2 h]; cases a.nu <;> rfl
      · rw [beq_eq_false_iff_ne.2 h]; cases a.nu <;> cases b.nu <;> simp
    rw [← Bool.and_assoc, this]; rfl
  · rw [if_neg h]
    have h1 : a.nu = false := by cases hh : a.nu with
      | true => exact absurd (.inl hh) h
      | false => rfl
    have h2 : b.nu = false := by cases hh : b.nu with
      | true => exact absurd (.inr (.inl hh)) h
      | false => rfl
    have h3 : chkV ty nu a = 0 := Decidable.byContradiction fun hh => h (.inr (.inr (.inl hh)))
    have h4 : chkV ty nu b = 0 := Decidable.byContradiction fun hh => h (.inr (.inr (.inr hh)))
    unfold prs
    rw [h1, h2, h3, h4]; rfl
end Go.ZN
namespace Go.Proofs.Ythohmngckpjlbaa
open Go.RowKit Go.VB Go.VL Go.VS Go.ZN Go.CK
set_option linter.constructorNameAsVariable false
set_option maxRecDepth 100000 in
set_option maxHeartbeats 2000000 in
theorem bounds0_any (nm : ByteArray) (ty sc : Int) (nu : Bool) (rows nulls : Int) (mb : Bool) (mi : Int) (ms : ByteArray) (xb : Bool) (xi : Int) (xs : ByteArray) (W : World) (hw : wrap64 (rows - nulls) = 0) :
    Calls Try.prog 36 #[(.agg #[.string nm, .int .i64 ty, .int .i64 sc, .bool nu]), (.agg #[.int .i64 rows, .int .i64 nulls, .bool mb, .int .i64 mi, .string ms, .bool xb, .int .i64 xi, .string xs])] W (RetB (.bool (bdok ty nu 0 ⟨mb, mi, ms⟩ ⟨xb, xi, xs⟩)) W) := by
  rw [bdok_zero]
  have HN := fun w => Lib.hid (znull_any w)
  have HB := Lib.hid (show Below W.heap.size W ((W.alloc (.cells #[.string nm, .int .i64 ty, .int .i64 sc, .bool nu] 32)).alloc (.cells #[.int .i64 rows, .int .i64 nulls, .bool mb, .int .i64 mi, .string ms, .bool xb, .int .i64 xi, .string xs] 25)) from by go_grown)
  have HZ := Lib.hid (show ∀ w, Below ((W.alloc (.cells #[.string nm, .int .i64 ty, .int .i64 sc, .bool nu] 32)).alloc (.cells #[.int .i64 rows, .int .i64 nulls, .bool mb, .int .i64 mi, .string ms, .bool xb, .int .i64 xi, .string xs] 25)).heap.size ((W.alloc (.cells #[.string nm, .int .i64 ty, .int .i64 sc, .bool nu] 32)).alloc (.cells #[.int .i64 rows, .int .i64 nulls, .bool mb, .int .i64 mi, .string ms, .bool xb, .int .i64 xi, .string xs] 25)) w → VarZ w (W.heap.size + 1) ⟨rows, nulls, ⟨mb, mi, ms⟩, ⟨xb, xi, xs⟩⟩ from fun w hb => by
    have h := (VarZ.new (W.alloc (.cells #[.string nm, .int .i64 ty, .int .i64 sc, .bool nu] 32)) ⟨rows, nulls, ⟨mb, mi, ms⟩, ⟨xb, xi, xs⟩⟩ 25).step hb
    rw [show (W.alloc (.cells #[.string nm, .int .i64 ty, .int .i64 sc, .bool nu] 32)).heap.size = W.heap.size + 1 from by simp] at h
    exact h)
  rcases veq_ways mb mi ms with ⟨rfl, hv⟩ | ⟨rfl, hn, hv⟩ | ⟨rfl, rfl, he, hv⟩ | ⟨rfl, rfl, rfl⟩
  case' inr.inr.inr => rcases veq_ways xb xi xs with ⟨rfl, hv⟩ | ⟨rfl, hn, hv⟩ | ⟨rfl, rfl, he, hv⟩ | ⟨rfl, rfl, rfl⟩
  all_goals
    (try rw [show veq ⟨true, 0, ⟨#[]⟩⟩ nulV = true from veq_rfl nulV])
    (try rw [hv])
    (try clear hv)
    (try have hn1 := ieq_f hn)
    (try clear hn)
    go_enter Try.func36, Try.ntmps36
    go_wp2_with fail
    refine Go.Confl.wp_region_confl (by simp only [List.map_cons, List.map_nil]; rfl) (by kernel_rfl) (by kernel_rfl) ?_
    iterate 11
      first
      | (refine Go.Confl.chain_skip (Go.Confl.unwanted_is rfl rfl) ?_)
      | (first | apply Go.Confl.chain_is _ (Go.Confl.wanted_none rfl) | apply Go.Confl.chain_is _ (Go.Confl.wanted_is rfl rfl)
         · intro b w hr hb K hK
           simp [Go.Confl.readFacts, Go.Confl.tmpsOf, Go.Confl.writerOf, Go.Confl.Is, Op.operands, Call.operands, List.findIdx?, List.findIdx?.go] at hr
           obtain ⟨c0, c1, c2, c3, c4, c5, c6, c7, _⟩ := HZ.out _ hb
           simp only at c0 c1 c2 c3 c4 c5 c6 c7
           go_wp2_with (first
             | (go_at_call 26; (with_reducible refine (HN _).out.mono ?_); rintro e w' ⟨rfl, hb'⟩))
           try (simp only [hr]; go_wp2)
           exact hK _ _ rfl (by first | exact Below.refl _ _ | assumption))
      simp only [List.nil_append, List.cons_append]
    intro us w hp hb
    simp [Go.Confl.allPosts, Go.Confl.Is] at hp
    simp only [Go.Confl.putsFrom, hp, Act.put, List.setIfInBounds_toArray, List.set_cons_zero, List.set_cons_succ]
    go_wp2
    go_ret
    exact RetB.mk rfl (bel_trans HB.out hb)
set_option maxRecDepth 100000 in
set_option maxHeartbeats 2000000 in
theorem bounds1_any (nm : ByteArray) (ty sc : Int) (nu : Bool) (rows nulls p : Int) (mb : Bool) (mi : Int) (ms : ByteArray) (xb : Bool) (xi : Int) (xs : ByteArray) (W : World) (hw : wrap64 (rows - nulls) = p) (hp : ¬ p = 0) :
    Calls Try.prog 36 #[(.agg #[.string nm, .int .i64 ty, .int .i64 sc, .bool nu]), (.agg #[.int .i64 rows, .int .i64 nulls, .bool mb, .int .i64 mi, .string ms, .bool xb, .int .i64 xi, .string xs])] W (RetB (.bool (bdok ty nu p ⟨mb, mi, ms⟩ ⟨xb, xi, xs⟩)) W) := by
  rw [bdok_prs hp]
  have HP1 := fun w => Lib.hid (isPres_any nm ty sc nu mb mi ms w)
  have HP2 := fun w => Lib.hid (isPres_any nm ty sc nu xb xi xs w)
  have HC := fun w => Lib.hid (cmp_any ty mb mi ms xb xi xs w)
  have hbd := cmp_bd ty mb mi ms xb xi xs
  have hcv : cmpV ty ⟨mb, mi, ms⟩ ⟨xb, xi, xs⟩ = cmp ty mb mi ms xb xi xs := rfl
  rw [hcv]; clear hcv
  have HB := Lib.hid (show Below W.heap.size W ((W.alloc (.cells #[.string nm, .int .i64 ty, .int .i64 sc, .bool nu] 32)).alloc (.cells #[.int .i64 rows, .int .i64 nulls, .bool mb, .int .i64 mi, .string ms, .bool xb, .int .i64 xi, .string xs] 25)) from by go_grown)
  have HZ := Lib.hid (show ∀ w, Below ((W.alloc (.cells #[.string nm, .int .i64 ty, .int .i64 sc, .bool nu] 32)).alloc (.cells #[.int .i64 rows, .int .i64 nulls, .bool mb, .int .i64 mi, .string ms, .bool xb, .int .i64 xi, .string xs] 25)).heap.size ((W.alloc (.cells #[.string nm, .int .i64 ty, .int .i64 sc, .bool nu] 32)).alloc (.cells #[.int .i64 rows, .int .i64 nulls, .bool mb, .int .i64 mi, .string ms, .bool xb, .int .i64 xi, .string xs] 25)) w → VarZ w (W.heap.size + 1) ⟨rows, nulls, ⟨mb, mi, ms⟩, ⟨xb, xi, xs⟩⟩ ∧ Var4 w W.heap.size (.string nm) (.int .i64 ty) (.int .i64 sc) (.bool nu) from fun w hb => by
    have h := (VarZ.new (W.alloc (.cells #[.string nm, .int .i64 ty, .int .i64 sc, .bool nu] 32)) ⟨rows, nulls, ⟨mb, mi, ms⟩, ⟨xb, xi, xs⟩⟩ 25).step hb
    rw [show (W.alloc (.cells #[.string nm, .int .i64 ty, .int .i64 sc, .bool nu] 32)).heap.size = W.heap.size + 1 from by simp] at h
    exact ⟨h, ((Var4.new W (.string nm) (.int .i64 ty) (.int .i64 sc) (.bool nu) 32).step ((Below.refl _ _).alloc (Nat.le_refl _) (.cells #[.int .i64 rows, .int .i64 nulls, .bool mb, .int .i64 mi, .string ms, .bool xb, .int .i64 xi, .string xs] 25))).step hb⟩)
  have hp0 := ieq_f hp
  generalize prs ty nu ⟨mb, mi, ms⟩ = q1 at *
  generalize prs ty nu ⟨xb, xi, xs⟩ = q2 at *
  generalize cmp ty mb mi ms xb xi xs = c at *
  cases q1 with
  | false =>
    rw [Bool.false_and]
    go_enter Try.func36, Try.ntmps36
    go_wp2_with fail
    (with_reducible refine (HP1 _).out.mono ?_); rintro e w1 ⟨rfl, hb1⟩
    have hB := bel_trans HB.out hb1
    clear HB HZ
    go_wp2
    go_ret
    exact RetB.mk rfl hB
  | true =>
    rw [Bool.true_and]
    cases q2 with
    | false =>
      rw [Bool.false_and]
      go_enter Try.func36, Try.ntmps36
      go_wp2_with fail
      (with_reducible refine (HP1 _).out.mono ?_); rintro e w1 ⟨rfl, hb1⟩
      obtain ⟨⟨_, _, z2, z3, z4, z5, z6, z7, _⟩, ⟨k0, k1, k2, k3⟩⟩ := HZ.out _ hb1
      simp only at z2 z3 z4 z5 z6 z7
      go_wp2_with fail
      (with_reducible refine (HP2 _).out.mono ?_); rintro e w2 ⟨rfl, hb2⟩
      have hB := bel_trans (bel_trans HB.out hb1) hb2
      clear HB HZ z2 z3 z4 z5 z6 z7 k0 k1 k2 k3
      go_wp2
      go_ret
      exact RetB.mk rfl hB
    | true =>
      rw [Bool.true_and]
      go_enter Try.func36, Try.ntmps36
      go_wp2_with fail
      (with_reducible refine (HP1 _).out.mono ?_); rintro e w1 ⟨rfl, hb1⟩
      obtain ⟨⟨_, _, z2, z3, z4, z5, z6, z7, _⟩, ⟨k0, k1, k2, k3⟩⟩ := HZ.out _ hb1
      simp only at z2 z3 z4 z5 z6 z7
      go_wp2_with fail
      (with_reducible refine (HP2 _).out.mono ?_); rintro e w2 ⟨rfl, hb2⟩
      clear z2 z3 z4 z5 z6 z7 k0 k1 k2 k3
      have hb12 := bel_trans hb1 hb2
      obtain ⟨⟨_, _, z2, z3, z4, z5, z6, z7, _⟩, ⟨k0, k1, k2, k3⟩⟩ := HZ.out _ hb12
      simp only at z2 z3 z4 z5 z6 z7
      go_wp2_with fail
      (with_reducible refine (HC _).out.mono ?_); rintro e w3 ⟨rfl, hb3⟩
      have hB := bel_trans (bel_trans HB.out hb12) hb3
      clear HB HZ z2 z3 z4 z5 z6 z7 k0 k1 k2 k3 hb1 hb2 hb12 hb3
      have HBB := Lib.hid hB
      clear hB hp0
      have hc : c = 0 ∨ c = -1 ∨ c = 1 := by omega
      rcases hc with rfl | rfl | rfl
      · go_wp2
        go_ret
        exact RetB.mk (by simp) HBB.out
      · go_wp2
        go_ret
        exact RetB.mk (by simp) HBB.out
      · go_wp2
        go_ret
        exact RetB.mk (by simp) HBB.out
theorem bounds_any (nm : ByteArray) (ty sc : Int) (nu : Bool) (rows nulls p : Int) (mb : Bool) (mi : Int) (ms : ByteArray) (xb : Bool) (xi : Int) (xs : ByteArray) (W : World) (hw : wrap64 (rows - nulls) = p) :
    Calls Try.prog 36 #[(.agg #[.string nm, .int .i64 ty, .int .i64 sc, .bool nu]), (.agg #[.int .i64 rows, .int .i64 nulls, .bool mb, .int .i64 mi, .string ms, .bool xb, .int .i64 xi, .string xs])] W (RetB (.bool (bdok ty nu p ⟨mb, mi, ms⟩ ⟨xb, xi, xs⟩)) W) := by
  by_cases hp : p = 0
  · subst hp; exact bounds0_any nm ty sc nu rows nulls mb mi ms xb xi xs W hw
  · exact bounds1_any nm ty sc nu rows nulls p mb mi ms xb xi xs W hw hp
set_option maxRecDepth 100000 in
set_option maxHeartbeats 2000000 in
theorem zcheck_any (nm : ByteArray) (ty sc : Int) (nu : Bool) (rows nulls : Int) (mb : Bool) (mi : Int) (ms : ByteArray) (xb : Bool) (xi : Int) (xs : ByteArray) (W : World) :
    Calls Try.prog 16 #[(.agg #[.string nm, .int .i64 ty, .int .i64 sc, .bool nu]), (.agg #[.int .i64 rows, .int .i64 nulls, .bool mb, .int .i64 mi, .string ms, .bool xb, .int .i64 xi, .string xs])] W (RetB (.bool (zchk ty nu ⟨rows, nulls, ⟨mb, mi, ms⟩, ⟨xb, xi, xs⟩⟩)) W) := by
  rw [zchk_parts]
  simp only
  have HT := fun w => Lib.hid (hasT_any nm ty sc nu w)
  have HC := fun w => Lib.hid (counts_any nm ty sc nu rows nulls mb mi ms xb xi xs w)
  have HB := Lib.hid (show Below W.heap.size W ((W.alloc (.cells #[.string nm, .int .i64 ty, .int .i64 sc, .bool nu] 32)).alloc (.cells #[.int .i64 rows, .int .i64 nulls, .bool mb, .int .i64 mi, .string ms, .bool xb, .int .i64 xi, .string xs] 25)) from by go_grown)
  have HZ := Lib.hid (show ∀ w, Below ((W.alloc (.cells #[.string nm, .int .i64 ty, .int .i64 sc, .bool nu] 32)).alloc (.cells #[.int .i64 rows, .int .i64 nulls, .bool mb, .int .i64 mi, .string ms, .bool xb, .int .i64 xi, .string xs] 25)).heap.size ((W.alloc (.cells #[.string nm, .int .i64 ty, .int .i64 sc, .bool nu] 32)).alloc (.cells #[.int .i64 rows, .int .i64 nulls, .bool mb, .int .i64 mi, .string ms, .bool xb, .int .i64 xi, .string xs] 25)) w → VarZ w (W.heap.size + 1) ⟨rows, nulls, ⟨mb, mi, ms⟩, ⟨xb, xi, xs⟩⟩ ∧ Var4 w W.heap.size (.string nm) (.int .i64 ty) (.int .i64 sc) (.bool nu) from fun w hb => by
    have h := (VarZ.new (W.alloc (.cells #[.string nm, .int .i64 ty, .int .i64 sc, .bool nu] 32)) ⟨rows, nulls, ⟨mb, mi, ms⟩, ⟨xb, xi, xs⟩⟩ 25).step hb
    rw [show (W.alloc (.cells #[.string nm, .int .i64 ty, .int .i64 sc, .bool nu] 32)).heap.size = W.heap.size + 1 from by simp] at h
    exact ⟨h, ((Var4.new W (.string nm) (.int .i64 ty) (.int .i64 sc) (.bool nu) 32).step ((Below.refl _ _).alloc (Nat.le_refl _) (.cells #[.int .i64 rows, .int .i64 nulls, .bool mb, .int .i64 mi, .string ms, .bool xb, .int .i64 xi, .string xs] 25))).step hb⟩)
  cases hT : okT ty with
  | false =>
    rw [hT] at HT
    rw [Bool.false_and]
    clear hT HZ HC
    go_enter Try.func16, Try.ntmps16
    go_wp2_with fail
    (with_reducible refine (HT _).out.mono ?_); rintro e w1 ⟨rfl, hb1⟩
    have hB := bel_trans HB.out hb1
    go_wp2
    go_ret
    exact RetB.mk rfl hB
  | true =>
    rw [hT] at HT
    rw [Bool.true_and]
    clear hT
    by_cases hc : cnts nu rows nulls = true
    · have hw : wrap64 (rows - nulls) = rows - nulls := by
        obtain ⟨_, h2, h3, h4⟩ := of_decide_eq_true hc
        unfold wrap64; omega
      have HD := fun w => Lib.hid (bounds_any nm ty sc nu rows nulls _ mb mi ms xb xi xs w hw)
      rw [hc] at HC ⊢
      rw [Bool.true_and]
      clear hc hw
      generalize bdok ty nu (rows - nulls) ⟨mb, mi, ms⟩ ⟨xb, xi, xs⟩ = R at *
      go_enter Try.func16, Try.ntmps16
      go_wp2_with fail
      (with_reducible refine (HT _).out.mono ?_); rintro e w1 ⟨rfl, hb1⟩
      obtain ⟨⟨z0, z1, z2, z3, z4, z5, z6, z7, _⟩, ⟨k0, k1, k2, k3⟩⟩ := HZ.out _ hb1
      simp only at z0 z1 z2 z3 z4 z5 z6 z7
      go_wp2_with fail
      (with_reducible refine (HC _).out.mono ?_); rintro e w2 ⟨rfl, hb2⟩
      clear z0 z1 z2 z3 z4 z5 z6 z7 k0 k1 k2 k3
      have hb12 := bel_trans hb1 hb2
      obtain ⟨⟨z0, z1, z2, z3, z4, z5, z6, z7, _⟩, ⟨k0, k1, k2, k3⟩⟩ := HZ.out _ hb12
      simp only at z0 z1 z2 z3 z4 z5 z6 z7
      go_wp2_with fail
      (with_reducible refine (HD _).out.mono ?_); rintro e w3 ⟨rfl, hb3⟩
      have hB := bel_trans (bel_trans HB.out hb12) hb3
      clear HB HZ z0 z1 z2 z3 z4 z5 z6 z7 k0 k1 k2 k3 hb1 hb2 hb12 hb3
      cases R
      all_goals
        go_wp2
        go_ret
        exact RetB.mk rfl hB
    · have hc' : cnts nu rows nulls = false := by simpa using hc
      rw [hc'] at HC ⊢
      rw [Bool.false_and]
      clear hc hc'
      go_enter Try.func16, Try.ntmps16
      go_wp2_with fail
      (with_reducible refine (HT _).out.mono ?_); rintro e w1 ⟨rfl, hb1⟩
      obtain ⟨⟨z0, z1, z2, z3, z4, z5, z6, z7, _⟩, ⟨k0, k1, k2, k3⟩⟩ := HZ.out _ hb1
      simp only at z0 z1 z2 z3 z4 z5 z6 z7
      go_wp2_with fail
      (with_reducible refine (HC _).out.mono ?_); rintro e w2 ⟨rfl, hb2⟩
      have hB := bel_trans (bel_trans HB.out hb1) hb2
      clear HB HZ z0 z1 z2 z3 z4 z5 z6 z7 k0 k1 k2 k3
      go_wp2
      go_ret
      exact RetB.mk rfl hB
end Go.Proofs.Ythohmngckpjlbaa
