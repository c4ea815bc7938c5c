/- The statement that what is accepted is the shortest encoding. -/
import Derived.Test.YtnlbfanbgicmgaaVarLaw
import Derived.Test.YtnlbfanbgicmgaaConfl
namespace Go.Proofs.Ytnlbfanbgicmgaa
set_option linter.constructorNameAsVariable false
open Go.RowKit Go.VB Go.VarM Go.ChangeShapes Go.WideShapes Go.ChangeAt
open Go.ChangeMaps (open_string)
/-- What is behind the reading: the same for whatever text. -/
theorem getR_cases (T : ByteArray) : (∃ c : Nat, 1 ≤ c ∧ getR T 0 = (0, 0, c)) ∨
    (∃ a i : Nat, getR T 0 = (a, (i : Int), 0) ∧ 1 ≤ i ∧ i ≤ T.size ∧ T.extract 0 i = str (putL a) ∧ a < 18446744073709551616) := by
  have h0 : getL (T.data.toList.drop 0) = ((getL T.data.toList).1, (getL T.data.toList).2.1, (getL T.data.toList).2.2) := rfl
  have hR := getR_nat (s := T) (k := 0) (by omega) h0
  by_cases h : (getL T.data.toList).2.2 = 0
  · obtain ⟨a1, a2, a3, a4⟩ := getL_ok h
    rw [size_list] at a2
    refine .inr ⟨(getL T.data.toList).1, (getL T.data.toList).2.1, ?_, a1, a2, ?_, a4⟩
    · rw [show ((0 : Nat) : Int) = 0 from rfl] at hR
      rw [hR, if_pos h]; simp
    · rw [extract_str, List.drop_zero, Nat.sub_zero, a3]
  · refine .inl ⟨(getL T.data.toList).2.2, by omega, ?_⟩
    rw [show ((0 : Nat) : Int) = 0 from rfl] at hR
    rw [hR, if_neg h]
set_option maxRecDepth 100000 in
set_option maxHeartbeats 4000000 in
theorem short_lo_err (s z T : ByteArray) (last : Int) (W : World) (zs : s.size ≤ 140737488351232) (h9 : s.size ≤ 9) (hTs : T.size ≤ 1000)
    (hcs : ∀ (w : World) (m : Nat), (convert 22 9 (.slice (some ⟨w.heap.size, 0, none⟩) 1 m)).run Try.prog (w.alloc (.cells #[.int .u8 last] 5)).drew = .ok (.string z) (w.alloc (.cells #[.int .u8 last] 5)).drew)
    (hadd : ∀ (w : World), (Op.stringOp .add s z).run Try.prog w = .ok (.string T) w) (c : Nat) (hc : 1 ≤ c) (hg : getR T 0 = (0, 0, c)) :
    Calls Try.prog 3 #[.string s, .int .u8 last] W (RetB (.bool true) W) := by
  have hB' : ∀ o, Below W.heap.size W (W.alloc o).drew := fun o => ((Below.refl _ _).alloc (Nat.le_refl _) o).drew
  have G := fun w => Lib.hid (vget_eq T 0 w (by unfold maxLen; omega) hg)
  clear hg
  go_enter Try.func3, Try.ntmps3
  go_wp2_with fail
  go_region
  all_goals
    go_wp2_with (first
      | (go_at_call 11; refine (G _).out.mono ?_; rintro e w' ⟨rfl, rfl⟩)
      | (go_at_call 12; refine (awake_any _).mono ?_; rintro e w1 ⟨rfl, hb1⟩; have hB2 := bel_trans (hB' _) hb1; clear hb1))
    go_ret
    exact RetB.mk rfl ‹_›
set_option maxRecDepth 100000 in
set_option maxHeartbeats 4000000 in
theorem short_lo_ok (s z T : ByteArray) (last : Int) (W : World) (zs : s.size ≤ 140737488351232) (h9 : s.size ≤ 9) (hTs : T.size ≤ 1000)
    (hcs : ∀ (w : World) (m : Nat), (convert 22 9 (.slice (some ⟨w.heap.size, 0, none⟩) 1 m)).run Try.prog (w.alloc (.cells #[.int .u8 last] 5)).drew = .ok (.string z) (w.alloc (.cells #[.int .u8 last] 5)).drew)
    (hadd : ∀ (w : World), (Op.stringOp .add s z).run Try.prog w = .ok (.string T) w) (a i : Nat) (hg : getR T 0 = (a, (i : Int), 0)) (hi1 : 1 ≤ i) (hi2 : i ≤ T.size) (hex : T.extract 0 i = str (putL a)) (ha : a < 18446744073709551616) :
    Calls Try.prog 3 #[.string s, .int .u8 last] W (RetB (.bool true) W) := by
  have hB' : ∀ o, Below W.heap.size W (W.alloc o).drew := fun o => ((Below.refl _ _).alloc (Nat.le_refl _) o).drew
  have G := fun w => Lib.hid (vget_eq T 0 w (by unfold maxLen; omega) hg)
  clear hg
  have hP := fun w => Lib.hid (vput_any a w ha)
  have d1 : decide ((1 : Int) ≤ (i : Int)) = true := by simp; omega
  have d2 : decide ((i : Int) ≤ (T.size : Int)) = true := by simp; omega
  have d3 : decide (1 ≤ i) = true := by simp; omega
  have d4 : decide (i ≤ T.size) = true := by simp; omega
  go_enter Try.func3, Try.ntmps3
  go_wp2_with fail
  go_region
  go_wp2_with (first
    | (go_at_call 11; refine (G _).out.mono ?_; rintro e w' ⟨rfl, rfl⟩)
    | fail)
  clear hcs hadd G
  have hB2 := hB' (Obj.cells #[Value.int IntKind.u8 last] 5)
  generalize (W.alloc (Obj.cells #[Value.int IntKind.u8 last] 5)).drew = W1 at hB2 ⊢
  clear hB'
  refine Go.Confl.wp_region_confl (by simp only [List.map_cons, List.map_nil]; rfl) (by kernel_rfl) (by kernel_rfl) ?_
  iterate 20
    first
    | (refine Go.Confl.chain_skip (Go.Confl.unwanted_is rfl rfl) ?_)
    | (first | apply Go.Confl.chain_is _ (Go.Confl.wanted_none rfl) | apply Go.Confl.chain_is _ (Go.Confl.wanted_is rfl rfl)
       · intro b w hr hb K hK
         simp [Go.Confl.readFacts, Go.Confl.tmpsOf, Go.Confl.writerOf, Go.Confl.Is, Op.operands, Call.operands, List.findIdx?, List.findIdx?.go] at hr
         go_wp2_with (first
           | (go_at_call 12; refine (awake_any _).mono ?_; rintro e w1 ⟨rfl, hb1⟩)
           | (go_at_call 13; refine (hP _).out.mono ?_; rintro e w1 ⟨rfl, hb1⟩))
         try (simp only [hr]; go_wp2)
         exact hK _ _ rfl (by first | exact Below.refl _ _ | assumption))
  intro us w hp hb
  simp [Go.Confl.allPosts, Go.Confl.Is] at hp
  simp only [Go.Confl.putsFrom, hp, Act.put, List.setIfInBounds_toArray, List.set_cons_zero, List.set_cons_succ]
  go_wp2
  go_ret
  exact RetB.mk rfl (bel_trans hB2 hb)
set_option maxRecDepth 100000 in
set_option maxHeartbeats 4000000 in
theorem short_hi_err (s z T : ByteArray) (last : Int) (W : World) (zs : s.size ≤ 140737488351232) (h9 : ¬ s.size ≤ 9) (hTs : T.size ≤ 1000)
    (hcs : ∀ (w : World) (m : Nat), (convert 22 9 (.slice (some ⟨w.heap.size, 0, none⟩) 1 m)).run Try.prog (w.alloc (.cells #[.int .u8 last] 5)).drew = .ok (.string z) (w.alloc (.cells #[.int .u8 last] 5)).drew)
    (hadd : ∀ (w : World), (Op.stringOp .add (s.extract 0 9) z).run Try.prog w = .ok (.string T) w) (c : Nat) (hc : 1 ≤ c) (hg : getR T 0 = (0, 0, c)) :
    Calls Try.prog 3 #[.string s, .int .u8 last] W (RetB (.bool true) W) := by
  have hB' : ∀ o, Below W.heap.size W (W.alloc o).drew := fun o => ((Below.refl _ _).alloc (Nat.le_refl _) o).drew
  have G := fun w => Lib.hid (vget_eq T 0 w (by unfold maxLen; omega) hg)
  clear hg
  go_enter Try.func3, Try.ntmps3
  go_wp2_with fail
  go_region
  all_goals
    go_wp2_with (first
      | (go_at_call 11; refine (G _).out.mono ?_; rintro e w' ⟨rfl, rfl⟩)
      | (go_at_call 12; refine (awake_any _).mono ?_; rintro e w1 ⟨rfl, hb1⟩; have hB2 := bel_trans (hB' _) hb1; clear hb1))
    go_ret
    exact RetB.mk rfl ‹_›
set_option maxRecDepth 100000 in
set_option maxHeartbeats 4000000 in
theorem short_hi_ok (s z T : ByteArray) (last : Int) (W : World) (zs : s.size ≤ 140737488351232) (h9 : ¬ s.size ≤ 9) (hTs : T.size ≤ 1000)
    (hcs : ∀ (w : World) (m : Nat), (convert 22 9 (.slice (some ⟨w.heap.size, 0, none⟩) 1 m)).run Try.prog (w.alloc (.cells #[.int .u8 last] 5)).drew = .ok (.string z) (w.alloc (.cells #[.int .u8 last] 5)).drew)
    (hadd : ∀ (w : World), (Op.stringOp .add (s.extract 0 9) z).run Try.prog w = .ok (.string T) w) (a i : Nat) (hg : getR T 0 = (a, (i : Int), 0)) (hi1 : 1 ≤ i) (hi2 : i ≤ T.size) (hex : T.extract 0 i = str (putL a)) (ha : a < 18446744073709551616) :
    Calls Try.prog 3 #[.string s, .int .u8 last] W (RetB (.bool true) W) := by
  have hB' : ∀ o, Below W.heap.size W (W.alloc o).drew := fun o => ((Below.refl _ _).alloc (Nat.le_refl _) o).drew
  have G := fun w => Lib.hid (vget_eq T 0 w (by unfold maxLen; omega) hg)
  clear hg
  have hP := fun w => Lib.hid (vput_any a w ha)
  have d1 : decide ((1 : Int) ≤ (i : Int)) = true := by simp; omega
  have d2 : decide ((i : Int) ≤ (T.size : Int)) = true := by simp; omega
  have d3 : decide (1 ≤ i) = true := by simp; omega
  have d4 : decide (i ≤ T.size) = true := by simp; omega
  go_enter Try.func3, Try.ntmps3
  go_wp2_with fail
  go_region
  go_wp2_with (first
    | (go_at_call 11; refine (G _).out.mono ?_; rintro e w' ⟨rfl, rfl⟩)
    | fail)
  clear hcs hadd G
  have hB2 := hB' (Obj.cells #[Value.int IntKind.u8 last] 5)
  generalize (W.alloc (Obj.cells #[Value.int IntKind.u8 last] 5)).drew = W1 at hB2 ⊢
  clear hB'
  refine Go.Confl.wp_region_confl (by simp only [List.map_cons, List.map_nil]; rfl) (by kernel_rfl) (by kernel_rfl) ?_
  iterate 20
    first
    | (refine Go.Confl.chain_skip (Go.Confl.unwanted_is rfl rfl) ?_)
    | (first | apply Go.Confl.chain_is _ (Go.Confl.wanted_none rfl) | apply Go.Confl.chain_is _ (Go.Confl.wanted_is rfl rfl)
       · intro b w hr hb K hK
         simp [Go.Confl.readFacts, Go.Confl.tmpsOf, Go.Confl.writerOf, Go.Confl.Is, Op.operands, Call.operands, List.findIdx?, List.findIdx?.go] at hr
         go_wp2_with (first
           | (go_at_call 12; refine (awake_any _).mono ?_; rintro e w1 ⟨rfl, hb1⟩)
           | (go_at_call 13; refine (hP _).out.mono ?_; rintro e w1 ⟨rfl, hb1⟩))
         try (simp only [hr]; go_wp2)
         exact hK _ _ rfl (by first | exact Below.refl _ _ | assumption))
  intro us w hp hb
  simp [Go.Confl.allPosts, Go.Confl.Is] at hp
  simp only [Go.Confl.putsFrom, hp, Act.put, List.setIfInBounds_toArray, List.set_cons_zero, List.set_cons_succ]
  go_wp2
  go_ret
  exact RetB.mk rfl (bel_trans hB2 hb)
set_option maxRecDepth 100000 in
set_option maxHeartbeats 4000000 in
theorem varintIsShortest_lifted (os : Os) (started : os.Started) (H : Type) (enc : TypeId × Value → H) :
    ReturnsInHanded {} Try.checked os 3 .any (Rows.varintIsShortestSpec.pre6 enc Try.prog Try.f3 Rows.varintIsShortestRow.domain false) (Rows.varintIsShortestSpec.post enc Try.prog Try.f3 false true false false) := by
  refine law_lifted (C := Try.checked) (tb := 4) started Try.own Try.laidOut (by kernel_rfl) Try.func3
    (ChangeSpec.witness6 (enc := enc) (C := Try.checked) false ⟨#[], #[.string ⟨#[]⟩, .int .u8 0], []⟩ 8 (by kernel_rfl) (by kernel_rfl) (by kernel_rfl) (by kernel_rfl))
    rfl rfl Try.underlying4 (by kernel_rfl) (fun ds h => ?_) (fun W base args ds p hval0 hA0 hsz0 hlt => ?_)
  · have h' : ds.length = Try.f3.params.toList.length := h
    rw [Try.params3] at h'
    match ds, h' with
    | [_, _], _ => rfl
  · have hval : ∀ (j : Nat) t v, Try.f3.params[j]? = some t → args[j]? = some v → Value.okWide Try.prog W .any base t v := hval0
    have hA : DataW.TrodAll enc Try.prog W 0 (fun _ => true) true Try.f3.params.toList args.toList ds p := hA0
    have hsz : (DataW.weightsEach Try.prog Try.f3.params.toList ds).all (· ≤ reachBytes) = true := hsz0
    rw [Try.params3] at hA hval hsz
    clear hA0 hval0 hsz0
    obtain ⟨v0, vs0, d0, ds0, p0, q0, hargs, rfl, rfl, h0, r0⟩ := trodAll_cons hA
    obtain ⟨v1, vs1, d1, ds1, p1, q1, rfl, rfl, rfl, h1, r1⟩ := trodAll_cons r0
    obtain ⟨rfl, rfl, rfl⟩ := trodAll_nil r1
    obtain rfl : args = #[v0, v1] := by cases args; simp_all
    obtain ⟨s, rfl, rfl, rfl, _⟩ := open_string Try.underlying9 (hval 0 9 v0 rfl rfl) h0
    have zs : s.size ≤ 140737488351232 := by have h := sized_string hsz (j := 0) (t := 9) rfl rfl; rw [size_list] at h; exact h
    obtain ⟨last, rfl, rfl, rfl, wlast⟩ := open_int Try.underlying5 (hval 1 5 v1 rfl rfl) h1
    change Calls Try.prog 3 #[.string s, .int .u8 last] W (RetB (.bool true) W)
    
    obtain ⟨z, hz⟩ : ∃ z, z = str [UInt8.ofNat last.toNat] := ⟨_, rfl⟩
    have hcs : ∀ (w : World) (m : Nat), (convert 22 9 (.slice (some ⟨w.heap.size, 0, none⟩) 1 m)).run Try.prog (w.alloc (.cells #[.int .u8 last] 5)).drew = .ok (.string z) (w.alloc (.cells #[.int .u8 last] 5)).drew :=
      fun w m => by rw [hz]; exact run_string1_drew (P := Try.prog) 22 9 5 Try.underlying22 Try.underlying5 Try.underlying9 w last m
    have hz1 : z.size = 1 := by rw [hz, str_size]; rfl
    obtain ⟨X, hX⟩ : ∃ X, X = (if s.size ≤ 9 then s else s.extract 0 9) := ⟨_, rfl⟩
    have hXs : X.size ≤ 9 := by
      rw [hX]; split
      · assumption
      · simp; omega
    obtain ⟨T, hT⟩ : ∃ T, T = X ++ z := ⟨_, rfl⟩
    have hTs : T.size ≤ 1000 := by rw [hT]; simp [hz1]; omega
    have hadd : ∀ (w : World), (Op.stringOp .add X z).run Try.prog w = .ok (.string T) w := fun w => by
      rw [run_string_add_sum w _ z (by rw [hz1]; omega), hT]
    by_cases h9 : s.size ≤ 9
    · rw [hX, if_pos h9] at hadd
      rcases getR_cases T with ⟨c, hc, hg⟩ | ⟨a, i, hg, hi1, hi2, hex, ha⟩
      · exact short_lo_err s z T last W zs h9 hTs hcs hadd c hc hg
      · exact short_lo_ok s z T last W zs h9 hTs hcs hadd a i hg hi1 hi2 hex ha
    · rw [hX, if_neg h9] at hadd
      rcases getR_cases T with ⟨c, hc, hg⟩ | ⟨a, i, hg, hi1, hi2, hex, ha⟩
      · exact short_hi_err s z T last W zs h9 hTs hcs hadd c hc hg
      · exact short_hi_ok s z T last W zs h9 hTs hcs hadd a i hg hi1 hi2 hex ha
theorem varintIsShortest_holds : Rows.VarintIsShortestSaid :=
  OpenClaim.holds_of_wide 3 Try.f3 rfl rfl rfl rfl rfl rfl rfl ⟨rfl, rfl, rfl, rfl, rfl⟩ rfl rfl rfl rfl rfl (by kernel_rfl) Try.func3 (by kernel_rfl)
    (of_decide_eq_true (by kernel_rfl)) (by unfold Func.isWrapper; first | (rw [if_pos (by decide +kernel)]; kernel_rfl) | (rw [if_neg (by decide +kernel)]; exact ⟨rfl, rfl⟩))
    (fun os started H enc _ => varintIsShortest_lifted os started H enc)
end Go.Proofs.Ytnlbfanbgicmgaa
