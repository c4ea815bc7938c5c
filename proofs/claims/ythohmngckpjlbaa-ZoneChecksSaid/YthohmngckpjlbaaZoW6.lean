/- The walk over the reference's CheckZone. -/
import Derived.Test.YthohmngckpjlbaaZoW5
namespace Go.Proofs.Ythohmngckpjlbaa
open Go.RowKit Go.VB Go.VL Go.VS Go.ZN Go.CK
set_option linter.constructorNameAsVariable false
set_option maxRecDepth 100000 in
set_option maxHeartbeats 2000000 in
theorem rchz_bad (nm : ByteArray) (ty sc : Int) (nu : Bool) (rows nulls : Int) (mb : Bool) (mi : Int) (ms : ByteArray) (xb : Bool) (xi : Int) (xs : ByteArray) (W : World) (h : okT ty = false ∨ nulls < 0 ∨ rows < nulls ∨ 4096 < rows ∨ (0 < nulls ∧ nu = false)) :
    Calls Try.prog 21 #[(.agg #[.string nm, .int .i64 ty, .int .i64 sc, .bool nu]), (.agg #[.int .i64 rows, .int .i64 nulls, .bool mb, .int .i64 mi, .string ms, .bool xb, .int .i64 xi, .string xs])] W (RetB (.bool false) W) := by
  have HT := fun w => Lib.hid (rtyped_any ty w)
  have hw : okT ty = false ∨ (okT ty = true ∧ nulls < 0) ∨ (okT ty = true ∧ 0 ≤ nulls ∧ rows < nulls) ∨ (okT ty = true ∧ 0 ≤ nulls ∧ nulls ≤ rows ∧ 4096 < rows) ∨ (okT ty = true ∧ 0 < nulls ∧ nulls ≤ rows ∧ rows ≤ 4096 ∧ nu = false) := by
    cases hT : okT ty with
    | false => exact .inl rfl
    | true =>
      right
      by_cases h1 : nulls < 0
      · exact .inl ⟨rfl, h1⟩
      · by_cases h2 : rows < nulls
        · exact .inr (.inl ⟨rfl, by omega, h2⟩)
        · by_cases h3 : 4096 < rows
          · exact .inr (.inr (.inl ⟨rfl, by omega, by omega, h3⟩))
          · rcases h with h | h | h | h | ⟨h, h'⟩
            · rw [hT] at h; cases h
            · exact absurd h h1
            · exact absurd h h2
            · exact absurd h h3
            · exact .inr (.inr (.inr ⟨rfl, h, by omega, by omega, h'⟩))
  clear h
  rcases hw with hT | ⟨hT, h1⟩ | ⟨hT, h1, h2⟩ | ⟨hT, h1, h2, h3⟩ | ⟨hT, h1, h2, h3, rfl⟩
  all_goals
    rw [hT] at HT
    clear hT
    go_enter Try.func21, Try.ntmps21
    go_wp2_with fail
    (with_reducible refine (HT _).out.mono ?_); rintro e w1 ⟨rfl, rfl⟩
    go_wp2
    go_ret
    exact RetB.mk rfl (by go_grown)
set_option maxRecDepth 100000 in
set_option maxHeartbeats 2000000 in
theorem rchz_zero (nm : ByteArray) (ty sc : Int) (nu : Bool) (rows : Int) (mb : Bool) (mi : Int) (ms : ByteArray) (xb : Bool) (xi : Int) (xs : ByteArray) (W : World) (hT : okT ty = true) (h0 : 0 ≤ rows) (h1 : rows ≤ 4096) (h2 : ¬ (0 < rows ∧ nu = false)) :
    Calls Try.prog 21 #[(.agg #[.string nm, .int .i64 ty, .int .i64 sc, .bool nu]), (.agg #[.int .i64 rows, .int .i64 rows, .bool mb, .int .i64 mi, .string ms, .bool xb, .int .i64 xi, .string xs])] W (RetB (.bool (bdok ty nu 0 ⟨mb, mi, ms⟩ ⟨xb, xi, xs⟩)) W) := by
  have HT := fun w => Lib.hid (rtyped_any ty w)
  rw [hT] at HT
  rw [bdok_zero]
  clear hT
  have HN := fun w => Lib.hid (rznull_any w)
  have HB := Lib.hid (show Below W.heap.size W ((W.alloc (.cells #[.string nm, .int .i64 ty, .int .i64 sc, .bool nu] 32)).alloc (.cells #[.int .i64 rows, .int .i64 rows, .bool mb, .int .i64 mi, .string ms, .bool xb, .int .i64 xi, .string xs] 25)) from by go_grown)
  have HZ := Lib.hid (show ∀ w, Below ((W.alloc (.cells #[.string nm, .int .i64 ty, .int .i64 sc, .bool nu] 32)).alloc (.cells #[.int .i64 rows, .int .i64 rows, .bool mb, .int .i64 mi, .string ms, .bool xb, .int .i64 xi, .string xs] 25)).heap.size ((W.alloc (.cells #[.string nm, .int .i64 ty, .int .i64 sc, .bool nu] 32)).alloc (.cells #[.int .i64 rows, .int .i64 rows, .bool mb, .int .i64 mi, .string ms, .bool xb, .int .i64 xi, .string xs] 25)) w → VarZ w (W.heap.size + 1) ⟨rows, rows, ⟨mb, mi, ms⟩, ⟨xb, xi, xs⟩⟩ from fun w hb => by
    have h := (VarZ.new (W.alloc (.cells #[.string nm, .int .i64 ty, .int .i64 sc, .bool nu] 32)) ⟨rows, rows, ⟨mb, mi, ms⟩, ⟨xb, xi, xs⟩⟩ 25).step hb
    rw [show (W.alloc (.cells #[.string nm, .int .i64 ty, .int .i64 sc, .bool nu] 32)).heap.size = W.heap.size + 1 from by simp] at h
    exact h)
  have hq : (0 < rows ∧ nu = true) ∨ rows = 0 := by
    by_cases hr : rows = 0
    · exact .inr hr
    · left; refine ⟨by omega, ?_⟩
      cases hn : nu with
      | true => rfl
      | false => exact absurd ⟨by omega, hn⟩ h2
  clear h2
  rcases veq_ways mb mi ms with ⟨rfl, hv⟩ | ⟨rfl, hn, hv⟩ | ⟨rfl, rfl, he, hv⟩ | ⟨rfl, rfl, rfl⟩
  case' inr.inr.inr => rcases veq_ways xb xi xs with ⟨rfl, hv⟩ | ⟨rfl, hn, hv⟩ | ⟨rfl, rfl, he, hv⟩ | ⟨rfl, rfl, rfl⟩
  all_goals
    (try rw [show veq ⟨true, 0, ⟨#[]⟩⟩ nulV = true from veq_rfl nulV])
    (try rw [hv])
    (try clear hv)
    (try have hn1 := ieq_f hn)
    (try clear hn)
    rcases hq with ⟨hq, rfl⟩ | rfl
    all_goals
      go_enter Try.func21, Try.ntmps21
      go_wp2_with fail
      (with_reducible refine (HT _).out.mono ?_); rintro e w1 ⟨rfl, rfl⟩
      go_wp2_with fail
      refine Go.Confl.wp_region_confl (by simp only [List.map_cons, List.map_nil]; rfl) (by kernel_rfl) (by kernel_rfl) ?_
      iterate 11
        first
        | (refine Go.Confl.chain_skip (Go.Confl.unwanted_is rfl rfl) ?_)
        | (first | apply Go.Confl.chain_is _ (Go.Confl.wanted_none rfl) | apply Go.Confl.chain_is _ (Go.Confl.wanted_is rfl rfl)
           · intro b w hr hb K hK
             simp [Go.Confl.readFacts, Go.Confl.tmpsOf, Go.Confl.writerOf, Go.Confl.Is, Op.operands, Call.operands, List.findIdx?, List.findIdx?.go] at hr
             obtain ⟨c0, c1, c2, c3, c4, c5, c6, c7, _⟩ := HZ.out _ hb
             simp only at c0 c1 c2 c3 c4 c5 c6 c7
             go_wp2_with (first
               | (go_at_call 32; (with_reducible refine (HN _).out.mono ?_); rintro e w' ⟨rfl, hb'⟩))
             try (simp only [hr]; go_wp2)
             exact hK _ _ rfl (by first | exact Below.refl _ _ | assumption))
        simp only [List.nil_append, List.cons_append]
      intro us w hp hb
      simp [Go.Confl.allPosts, Go.Confl.Is] at hp
      simp only [Go.Confl.putsFrom, hp, Act.put, List.setIfInBounds_toArray, List.set_cons_zero, List.set_cons_succ]
      go_wp2
      go_ret
      exact RetB.mk rfl (bel_trans HB.out hb)
set_option maxRecDepth 100000 in
set_option maxHeartbeats 2000000 in
theorem rchz_val (nm : ByteArray) (ty sc : Int) (nu : Bool) (rows nulls p : Int) (mb : Bool) (mi : Int) (ms : ByteArray) (xb : Bool) (xi : Int) (xs : ByteArray) (W : World) (hT : okT ty = true) (h0 : 0 ≤ nulls) (h3 : nulls < rows) (h1 : rows ≤ 4096) (h2 : ¬ (0 < nulls ∧ nu = false)) (hp : rows - nulls = p) :
    Calls Try.prog 21 #[(.agg #[.string nm, .int .i64 ty, .int .i64 sc, .bool nu]), (.agg #[.int .i64 rows, .int .i64 nulls, .bool mb, .int .i64 mi, .string ms, .bool xb, .int .i64 xi, .string xs])] W (RetB (.bool (bdok ty nu p ⟨mb, mi, ms⟩ ⟨xb, xi, xs⟩)) W) := by
  have HT := fun w => Lib.hid (rtyped_any ty w)
  rw [hT] at HT
  have hw : wrap64 (rows - nulls) = p := by unfold wrap64; omega
  have hb : bdok ty nu p ⟨mb, mi, ms⟩ ⟨xb, xi, xs⟩ = if mb = true ∨ xb = true ∨ chk ty nu mb mi ms ≠ 0 ∨ chk ty nu xb xi xs ≠ 0 then false else decide (cmp ty mb mi ms xb xi xs = 0 ∨ (cmp ty mb mi ms xb xi xs < 0 ∧ 1 < p)) := by
    unfold bdok
    rw [if_neg (by omega)]; rfl
  rw [hb]; clear hb
  have HP1 := fun w => Lib.hid (rchk_any nm ty sc nu mb mi ms w)
  have HP2 := fun w => Lib.hid (rchk_any nm ty sc nu xb xi xs w)
  have HC := fun w => Lib.hid (rcmp_any ty mb mi ms xb xi xs w)
  have hbd := cmp_bd ty mb mi ms xb xi xs
  have HB := Lib.hid (show Below W.heap.size W ((W.alloc (.cells #[.string nm, .int .i64 ty, .int .i64 sc, .bool nu] 32)).alloc (.cells #[.int .i64 rows, .int .i64 nulls, .bool mb, .int .i64 mi, .string ms, .bool xb, .int .i64 xi, .string xs] 25)) from by go_grown)
  have HZ := Lib.hid (show ∀ w, Below ((W.alloc (.cells #[.string nm, .int .i64 ty, .int .i64 sc, .bool nu] 32)).alloc (.cells #[.int .i64 rows, .int .i64 nulls, .bool mb, .int .i64 mi, .string ms, .bool xb, .int .i64 xi, .string xs] 25)).heap.size ((W.alloc (.cells #[.string nm, .int .i64 ty, .int .i64 sc, .bool nu] 32)).alloc (.cells #[.int .i64 rows, .int .i64 nulls, .bool mb, .int .i64 mi, .string ms, .bool xb, .int .i64 xi, .string xs] 25)) w → VarZ w (W.heap.size + 1) ⟨rows, nulls, ⟨mb, mi, ms⟩, ⟨xb, xi, xs⟩⟩ ∧ Var4 w W.heap.size (.string nm) (.int .i64 ty) (.int .i64 sc) (.bool nu) from fun w hb => by
    have h := (VarZ.new (W.alloc (.cells #[.string nm, .int .i64 ty, .int .i64 sc, .bool nu] 32)) ⟨rows, nulls, ⟨mb, mi, ms⟩, ⟨xb, xi, xs⟩⟩ 25).step hb
    rw [show (W.alloc (.cells #[.string nm, .int .i64 ty, .int .i64 sc, .bool nu] 32)).heap.size = W.heap.size + 1 from by simp] at h
    exact ⟨h, ((Var4.new W (.string nm) (.int .i64 ty) (.int .i64 sc) (.bool nu) 32).step ((Below.refl _ _).alloc (Nat.le_refl _) (.cells #[.int .i64 rows, .int .i64 nulls, .bool mb, .int .i64 mi, .string ms, .bool xb, .int .i64 xi, .string xs] 25))).step hb⟩)
  have hq : (0 < nulls ∧ nu = true) ∨ nulls = 0 := by
    by_cases hr : nulls = 0
    · exact .inr hr
    · left; refine ⟨by omega, ?_⟩
      cases hn : nu with
      | true => rfl
      | false => exact absurd ⟨by omega, hn⟩ h2
  have hne : (nulls == rows) = false := ieq_f (by omega)
  have h1p : 1 < rows - nulls ∨ rows - nulls ≤ 1 := by omega
  subst hp
  clear hT h2
  generalize chk ty nu mb mi ms = k1 at *
  generalize chk ty nu xb xi xs = k2 at *
  generalize cmp ty mb mi ms xb xi xs = c at *
  rcases hq with ⟨hq, rfl⟩ | rfl
  all_goals
    cases mb with
    | true =>
      rw [if_pos (.inl rfl)]
      clear hw hbd HZ
      go_enter Try.func21, Try.ntmps21
      go_wp2_with fail
      (with_reducible refine (HT _).out.mono ?_); rintro e w1 ⟨rfl, rfl⟩
      go_wp2
      go_ret
      exact RetB.mk rfl HB.out
    | false =>
      cases xb with
      | true =>
        rw [if_pos (.inr (.inl rfl))]
        clear hw hbd HZ
        go_enter Try.func21, Try.ntmps21
        go_wp2_with fail
        (with_reducible refine (HT _).out.mono ?_); rintro e w1 ⟨rfl, rfl⟩
        go_wp2
        go_ret
        exact RetB.mk rfl HB.out
      | false =>
        by_cases hk1 : k1 = 0
        · subst hk1
          by_cases hk2 : k2 = 0
          · subst hk2
            rw [if_neg (by rintro (h | h | h | h) <;> first | cases h | exact h rfl)]
            go_enter Try.func21, Try.ntmps21
            go_wp2_with fail
            (with_reducible refine (HT _).out.mono ?_); rintro e w1 ⟨rfl, rfl⟩
            go_wp2_with fail
            (with_reducible refine (HP1 _).out.mono ?_); rintro e w1 ⟨rfl, hb1⟩
            obtain ⟨⟨_, _, z2, z3, z4, z5, z6, z7, _⟩, ⟨k0, k1, k2, k3⟩⟩ := HZ.out _ hb1
            simp only at z2 z3 z4 z5 z6 z7
            go_wp2_with fail
            (with_reducible refine (HP2 _).out.mono ?_); rintro e w2 ⟨rfl, hb2⟩
            clear z2 z3 z4 z5 z6 z7 k0 k1 k2 k3
            have hb12 := bel_trans hb1 hb2
            obtain ⟨⟨_, _, z2, z3, z4, z5, z6, z7, _⟩, ⟨k0, k1, k2, k3⟩⟩ := HZ.out _ hb12
            simp only at z2 z3 z4 z5 z6 z7
            go_wp2_with fail
            (with_reducible refine (HC _).out.mono ?_); rintro e w3 ⟨rfl, hb3⟩
            have hb13 := bel_trans hb12 hb3
            clear z2 z3 z4 z5 z6 z7 k0 k1 k2 k3 hb1 hb2 hb12 hb3
            obtain ⟨⟨z0, z1, _, _, _, _, _, _, _⟩, _⟩ := HZ.out _ hb13
            simp only at z0 z1
            have hB := bel_trans HB.out hb13
            clear HB HZ hb13
            have HBB := Lib.hid hB
            clear hB
            have hc : c = 0 ∨ c = -1 ∨ c = 1 := by omega
            clear hbd
            rcases hc with rfl | rfl | rfl
            · go_wp2
              go_ret
              exact RetB.mk (by simp) HBB.out
            · rcases h1p with h1p | h1p
              all_goals
                go_wp2
                go_ret
                exact RetB.mk (by simp <;> omega) HBB.out
            · go_wp2
              go_ret
              exact RetB.mk (by simp) HBB.out
          · rw [if_pos (.inr (.inr (.inr hk2)))]
            have e2 : ((k2 : Int) != 0) = true := ine_t (by omega)
            clear hw hbd hk2
            go_enter Try.func21, Try.ntmps21
            go_wp2_with fail
            (with_reducible refine (HT _).out.mono ?_); rintro e w1 ⟨rfl, rfl⟩
            go_wp2_with fail
            (with_reducible refine (HP1 _).out.mono ?_); rintro e w1 ⟨rfl, hb1⟩
            obtain ⟨⟨_, _, z2, z3, z4, z5, z6, z7, _⟩, ⟨k0, k1, k2, k3⟩⟩ := HZ.out _ hb1
            simp only at z2 z3 z4 z5 z6 z7
            go_wp2_with fail
            (with_reducible refine (HP2 _).out.mono ?_); rintro e w2 ⟨rfl, hb2⟩
            have hB := bel_trans (bel_trans HB.out hb1) hb2
            clear HB HZ z2 z3 z4 z5 z6 z7 k0 k1 k2 k3
            go_wp2
            go_ret
            exact RetB.mk rfl hB
        · rw [if_pos (.inr (.inr (.inl hk1)))]
          have e1 : ((k1 : Int) != 0) = true := ine_t (by omega)
          clear hw hbd hk1
          go_enter Try.func21, Try.ntmps21
          go_wp2_with fail
          (with_reducible refine (HT _).out.mono ?_); rintro e w1 ⟨rfl, rfl⟩
          go_wp2_with fail
          (with_reducible refine (HP1 _).out.mono ?_); rintro e w1 ⟨rfl, hb1⟩
          have hB := bel_trans HB.out hb1
          clear HB HZ
          go_wp2
          go_ret
          exact RetB.mk rfl hB
theorem rcheckz_any (nm : ByteArray) (ty sc : Int) (nu : Bool) (rows nulls : Int) (mb : Bool) (mi : Int) (ms : ByteArray) (xb : Bool) (xi : Int) (xs : ByteArray) (W : World) :
    Calls Try.prog 21 #[(.agg #[.string nm, .int .i64 ty, .int .i64 sc, .bool nu]), (.agg #[.int .i64 rows, .int .i64 nulls, .bool mb, .int .i64 mi, .string ms, .bool xb, .int .i64 xi, .string xs])] W (RetB (.bool (zchk ty nu ⟨rows, nulls, ⟨mb, mi, ms⟩, ⟨xb, xi, xs⟩⟩)) W) := by
  by_cases h : okT ty = false ∨ nulls < 0 ∨ rows < nulls ∨ 4096 < rows ∨ (0 < nulls ∧ nu = false)
  · rw [zchk_bad h]
    exact rchz_bad nm ty sc nu rows nulls mb mi ms xb xi xs W h
  · rw [zchk_bds h]
    have h1 : okT ty = true := by
      cases hT : okT ty with
      | true => rfl
      | false => exact absurd (.inl hT) h
    have h2 : 0 ≤ nulls := Int.not_lt.1 fun hh => h (.inr (.inl hh))
    have h3 : nulls ≤ rows := Int.not_lt.1 fun hh => h (.inr (.inr (.inl hh)))
    have h4 : rows ≤ 4096 := Int.not_lt.1 fun hh => h (.inr (.inr (.inr (.inl hh))))
    have h5 : ¬ (0 < nulls ∧ nu = false) := fun hh => h (.inr (.inr (.inr (.inr hh))))
    by_cases he : nulls = rows
    · subst he
      simp only [Int.sub_self]
      exact rchz_zero nm ty sc nu nulls mb mi ms xb xi xs W h1 h2 h4 h5
    · exact rchz_val nm ty sc nu rows nulls _ mb mi ms xb xi xs W h1 h2 (by omega) h4 h5 rfl
end Go.Proofs.Ythohmngckpjlbaa
