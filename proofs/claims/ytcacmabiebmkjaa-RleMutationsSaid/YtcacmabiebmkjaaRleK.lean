/- The statements' own makers: lists with long runs; lists compared; the statements' example. -/
import Derived.Test.YtcacmabiebmkjaaSrc
import Derived.Test.YtcacmabiebmkjaaRleW6
import Derived.Test.YtcacmabiebmkjaaRleW7
namespace Go.RL
open Go.RowKit Go.VB
/-- A list of the call's own, of at most 310 numbers. -/
def RunsP (e : TypeId) (w : World) : Ending → World → Prop := fun en w' => ∃ v l, en = .returned v ∧ OwnV (Value.int .i64) e w' w.heap.size v l ∧ l.length ≤ 310 ∧ I64 l ∧ Below w.heap.size w w'
theorem RunsP.mk {e : TypeId} {w w' : World} {x v : Value} {l : List Int} (hx : x = v) (ho : OwnV (Value.int .i64) e w' w.heap.size v l) (hl : l.length ≤ 310) (hi : I64 l) (hb : Below w.heap.size w w') : RunsP e w (.returned x) w' := ⟨v, l, by rw [hx], ho, hl, hi, hb⟩
end Go.RL
namespace Go.Proofs.Ytcacmabiebmkjaa
open Go.RowKit Go.VB Go.VarM Go.RL Go.KS
set_option maxRecDepth 100000 in
set_option maxHeartbeats 1000000 in
theorem same_i_eq (x y : Value) (l : List Int) (B : Nat) (w : World) (hx : RdV (Value.int .i64) w B x l) (hy : RdV (Value.int .i64) w B y l) (hB : B ≤ w.heap.size) :
    Calls Try.prog 19 #[x, y] w (RetB (.bool true) w) := by
  obtain ⟨A, c, rfl, hc1, hc2, hx'⟩ := hx
  obtain ⟨A', c', rfl, hd1, hd2, hy'⟩ := hy
  have hx : RdV (Value.int .i64) w B (.slice A l.length c) l := ⟨A, c, rfl, hc1, hc2, hx'⟩
  have hy : RdV (Value.int .i64) w B (.slice A' l.length c') l := ⟨A', c', rfl, hd1, hd2, hy'⟩
  clear hx' hy'
  unfold maxLen at hc2 hd2
  have HX := Lib.hid hx; have HY := Lib.hid hy; clear hx hy
  go_enter Try.func19, Try.ntmps19
  go_wp2
  go_loopw [13] (fun i wr => ∃ j : Nat, i = .int .i64 j ∧ j ≤ l.length ∧ Below w.heap.size w wr) (fun i _ => l.length - (intOf i).toNat)
  case atStart => exact ⟨0, rfl, Nat.zero_le _, Below.refl _ _⟩
  case round =>
    obtain ⟨j, rfl, hj, hbel⟩ := hrel
    by_cases hlt : j < l.length
    · have hlj : l[j]? = some l[j] := List.getElem?_eq_getElem hlt
      obtain ⟨_, _, hv1, _, _, hcx⟩ := HX.out.below (hbel.mono hB)
      cases hv1
      obtain ⟨ad, rfl, _, hgx⟩ := hcx j _ hlj
      obtain ⟨_, _, hv2, _, _, hcy⟩ := HY.out.below (hbel.mono hB)
      cases hv2
      obtain ⟨ad', rfl, _, hgy⟩ := hcy j _ hlj
      clear hcx hcy hlj
      generalize l[j] = V at hgx hgy
      go_wp2_with fail
      go_region
      go_wp2_with fail
      go_roundw
      case rel => exact ⟨j + 1, by go_num, hlt, hbel.drew⟩
      case measure => simp [intOf] <;> omega
    · go_wp2
      go_ret
      exact RetB.mk rfl hbel
set_option maxRecDepth 100000 in
set_option maxHeartbeats 4000000 in
theorem kruns_any (W : World) (v : Value) (zl : List Int) (hr : RdI .i64 W W.heap.size v zl) (hw : ∀ z ∈ zl, (Lit.int .i64 z).wf = true) :
    Calls Try.prog 11 #[v] W (RunsP 2 W) := by
  obtain ⟨A, c, rfl, hc, hm, hrr⟩ := hr
  have hr : RdI .i64 W W.heap.size (.slice A zl.length c) zl := ⟨A, c, rfl, hc, hm, hrr⟩
  have hS0 := Sr.made hr hw 50
  have hB0 := (Below.refl W.heap.size W).alloc (Nat.le_refl _) (.cells #[.slice A zl.length c, .int .i64 0] 50)
  clear hc hm hrr hr hw
  have HF := Lib.hid (kfrom_any A zl.length c W)
  go_enter Try.func11, Try.ntmps11
  go_wp2_with fail
  refine HF.out.mono ?_; rintro e w1 ⟨rfl, rfl⟩
  clear HF
  generalize W.alloc (.cells #[.slice A zl.length c, .int .i64 0] 50) = W1 at hS0 hB0
  go_wp2_with fail
  go_loopw [4] (fun v wr => ∃ l : List Int, OwnV (Value.int .i64) 2 wr (W.heap.size + 1) v l ∧ l.length ≤ 310 ∧ I64 l ∧ Sr wr W.heap.size (.slice A zl.length c) zl ∧ Below W.heap.size W wr) (fun v _ => 400 - lenV v)
  case atStart => exact ⟨[], OwnV.nil _ _ _ _, by decide, fun _ h => by simp at h, hS0, hB0⟩
  case round =>
    obtain ⟨l, hown, hl, hI, hS, hbel⟩ := hrel
    obtain ⟨A0, c0, rfl, hc1, hc2, _⟩ := hown.read
    unfold maxLen at hc2
    go_wp2_with fail
    refine (kleft_any _ _ _ _ hS).mono ?_; rintro e w2 ⟨b, rfl, hS2, hB2⟩
    have hown2 := hB2.own hown (by omega)
    have hbel2 := hB2.below hbel (Nat.le_refl _)
    clear hown hbel hS hB2
    by_cases hgo : b = true ∧ l.length < 300
    · obtain ⟨rfl, hl3⟩ := hgo
      go_wp2_with fail
      refine (knext_any _ _ _ _ 4 hS2 (by omega) (by omega)).mono ?_; rintro e w4 ⟨r4, rfl, h4, hS4, hB4⟩
      have hown4 := hB4.own hown2 (by omega)
      have hbel4 := hB4.below hbel2 (Nat.le_refl _)
      clear hown2 hbel2 hB4 hS2
      obtain ⟨h4a, h4b⟩ := h4
      go_wp2_with fail
      refine (knext_any _ _ _ _ 6 hS4 (by omega) (by omega)).mono ?_; rintro e w5 ⟨r5, rfl, h5, hS5, hB5⟩
      have hown5 := hB5.own hown4 (by omega)
      have hbel5 := hB5.below hbel4 (Nat.le_refl _)
      clear hown4 hbel4 hB5 hS4
      by_cases hz : r5 = 0
      · subst hz
        go_wp2_with fail
        refine (kraw_any _ _ _ _ hS5).mono ?_; rintro e w6 ⟨V, rfl, h6, hS6, hB6⟩
        have hown6 := hB6.own hown5 (by omega)
        have hbel6 := hB6.below hbel5 (Nat.le_refl _)
        have hV := bounds_i64 h6
        clear hown5 hbel5 hB6 hS5 h6
        go_wp2_with fail
        refine (knext_any _ _ _ _ 9 hS6 (by omega) (by omega)).mono ?_; rintro e w9 ⟨r9, rfl, h9, hS9, hB9⟩
        have hown9 := hB9.own hown6 (by omega)
        have hbel9 := hB9.below hbel6 (Nat.le_refl _)
        have hsz9 := hS9.lt
        clear hown6 hbel6 hB9 hS6
        obtain ⟨r9, rfl⟩ := Int.eq_ofNat_of_zero_le h9.1
        have h9b := h9.2
        clear h9
        go_wp2_with fail
        go_loopw [4, 6] (fun v t wk => ∃ j m : Nat, t = .int .i64 m ∧ j + m ≤ r9 + 1 ∧ r9 + 1 ≤ j + m ∧ OwnV (Value.int .i64) 2 wk (W.heap.size + 1) v (l ++ List.replicate j V) ∧ Sr wk W.heap.size (.slice A zl.length c) zl ∧ Below W.heap.size W wk) (fun _ t _ => (intOf t).toNat)
        case atStart => exact ⟨0, r9 + 1, vint (by omega), by omega, by omega, by rw [List.replicate_zero, List.append_nil]; exact hown9, hS9, hbel9⟩
        case round =>
          obtain ⟨j, m, rfl, hj, hj2, hownj, hSj, hbelj⟩ := hrel
          have hlj : (l ++ List.replicate j V).length = l.length + j := by rw [List.length_append, List.length_replicate]
          have hszj := hbelj.size
          have hszs := hSj.lt
          by_cases hja : 0 < m
          · have hbd : (l ++ List.replicate j V).length ≤ 4096 := by omega
            have HBD := Lib.hid hbd; clear hlj hbd
            go_wp2_with (at_builtin; refine wpl_appV (f := Value.int .i64) (fun _ => rfl) (.int .i64 0) rfl rfl _ _ 23 rfl (W.heap.size + 1) 2 8 Try.underlying23 Try.infI64 _ (l ++ List.replicate j V) rfl (hownj.alloc _) _ _ [V] rfl (RdV.one _ _ _ _ _ (by decide) (by decide)) (by have := HBD.out; unfold maxLen; simp only [List.length_cons, List.length_nil]; omega) (by have := HBD.out; simp only [List.length_cons, List.length_nil]; omega) (by simp; omega) ?_)
            intro v' w' hown' hb' _
            have hba := ((Below.refl (W.heap.size + 1) wr).alloc hszs (.cells #[.int .i64 V] 2)).trans hb'
            go_wp2_with fail
            go_roundw
            case rel => exact ⟨j + 1, m - 1, vint (by omega), by omega, by omega, by rw [← rep_snoc, List.append_assoc]; exact hown', hSj.below hba (by omega), hbelj.trans (hba.mono (by omega))⟩
            case measure => simp [intOf] <;> omega
          · obtain ⟨A', c', hv', _, _, _⟩ := hownj.read
            have HV' := Lib.hid hv'; have HLJ := Lib.hid hlj
            have hj1 : 1 ≤ j := by omega
            have hfb : (l ++ List.replicate j V).length ≤ 310 := by omega
            have hI' : I64 (l ++ List.replicate j V) := by
              intro y hy
              rcases List.mem_append.1 hy with hy | hy
              · exact hI y hy
              · rw [List.eq_of_mem_replicate hy]; exact hV
            have HFB := Lib.hid hfb; have HI' := Lib.hid hI'
            clear hv' hlj hfb hI'
            go_wp2_with fail
            go_roundw
            case rel => exact ⟨l ++ List.replicate j V, hownj, HFB.out, HI'.out, hSj, hbelj⟩
            case measure => rw [HV'.out]; simp only [lenV]; rw [HLJ.out]; omega
      · have hd : (r5 == 0) = false := beq_eq_false_iff_ne.2 hz
        have hown6 := hown5; have hbel6 := hbel5; have hS6 := hS5
        clear hz hown5 hbel5 hS5
        obtain ⟨V, hVe⟩ : ∃ V, r4 - 1 = V := ⟨_, rfl⟩
        have hV : -9223372036854775808 ≤ V ∧ V ≤ 9223372036854775807 := by omega
        have HVE := Lib.hid hVe; clear hVe
        go_wp2_with fail
        refine (knext_any _ _ _ _ 9 hS6 (by omega) (by omega)).mono ?_; rintro e w9 ⟨r9, rfl, h9, hS9, hB9⟩
        rw [HVE.out]
        have hown9 := hB9.own hown6 (by omega)
        have hbel9 := hB9.below hbel6 (Nat.le_refl _)
        have hsz9 := hS9.lt
        clear hown6 hbel6 hB9 hS6
        obtain ⟨r9, rfl⟩ := Int.eq_ofNat_of_zero_le h9.1
        have h9b := h9.2
        clear h9
        go_wp2_with fail
        go_loopw [4, 6] (fun v t wk => ∃ j m : Nat, t = .int .i64 m ∧ j + m ≤ r9 + 1 ∧ r9 + 1 ≤ j + m ∧ OwnV (Value.int .i64) 2 wk (W.heap.size + 1) v (l ++ List.replicate j V) ∧ Sr wk W.heap.size (.slice A zl.length c) zl ∧ Below W.heap.size W wk) (fun _ t _ => (intOf t).toNat)
        case atStart => exact ⟨0, r9 + 1, vint (by omega), by omega, by omega, by rw [List.replicate_zero, List.append_nil]; exact hown9, hS9, hbel9⟩
        case round =>
          obtain ⟨j, m, rfl, hj, hj2, hownj, hSj, hbelj⟩ := hrel
          have hlj : (l ++ List.replicate j V).length = l.length + j := by rw [List.length_append, List.length_replicate]
          have hszj := hbelj.size
          have hszs := hSj.lt
          by_cases hja : 0 < m
          · have hbd : (l ++ List.replicate j V).length ≤ 4096 := by omega
            have HBD := Lib.hid hbd; clear hlj hbd
            go_wp2_with (at_builtin; refine wpl_appV (f := Value.int .i64) (fun _ => rfl) (.int .i64 0) rfl rfl _ _ 23 rfl (W.heap.size + 1) 2 8 Try.underlying23 Try.infI64 _ (l ++ List.replicate j V) rfl (hownj.alloc _) _ _ [V] rfl (RdV.one _ _ _ _ _ (by decide) (by decide)) (by have := HBD.out; unfold maxLen; simp only [List.length_cons, List.length_nil]; omega) (by have := HBD.out; simp only [List.length_cons, List.length_nil]; omega) (by simp; omega) ?_)
            intro v' w' hown' hb' _
            have hba := ((Below.refl (W.heap.size + 1) wr).alloc hszs (.cells #[.int .i64 V] 2)).trans hb'
            go_wp2_with fail
            go_roundw
            case rel => exact ⟨j + 1, m - 1, vint (by omega), by omega, by omega, by rw [← rep_snoc, List.append_assoc]; exact hown', hSj.below hba (by omega), hbelj.trans (hba.mono (by omega))⟩
            case measure => simp [intOf] <;> omega
          · obtain ⟨A', c', hv', _, _, _⟩ := hownj.read
            have HV' := Lib.hid hv'; have HLJ := Lib.hid hlj
            have hj1 : 1 ≤ j := by omega
            have hfb : (l ++ List.replicate j V).length ≤ 310 := by omega
            have hI' : I64 (l ++ List.replicate j V) := by
              intro y hy
              rcases List.mem_append.1 hy with hy | hy
              · exact hI y hy
              · rw [List.eq_of_mem_replicate hy]; exact hV
            have HFB := Lib.hid hfb; have HI' := Lib.hid hI'
            clear hv' hlj hfb hI'
            go_wp2_with fail
            go_roundw
            case rel => exact ⟨l ++ List.replicate j V, hownj, HFB.out, HI'.out, hSj, hbelj⟩
            case measure => rw [HV'.out]; simp only [lenV]; rw [HLJ.out]; omega
    · rcases Bool.eq_false_or_eq_true b with rfl | rfl
      · have hl3 : ¬ l.length < 300 := fun h => hgo ⟨rfl, h⟩
        clear hgo
        go_wp2
        go_ret
        exact RunsP.mk rfl (hown2.lower (by omega)) hl hI hbel2
      · clear hgo
        go_wp2
        go_ret
        exact RunsP.mk rfl (hown2.lower (by omega)) hl hI hbel2
end Go.Proofs.Ytcacmabiebmkjaa
