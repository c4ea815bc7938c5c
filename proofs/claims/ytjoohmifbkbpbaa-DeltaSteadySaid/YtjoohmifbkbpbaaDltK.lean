/- The statements' own makers of layer 11: lists with small and great differences; the statements' example; Decode against the reference. -/
import Derived.Test.YtjoohmifbkbpbaaDltW3
import Derived.Test.YtjoohmifbkbpbaaDltW7
namespace Go.Proofs.Ytjoohmifbkbpbaa
open Go.RowKit Go.VB Go.VarM Go.BP Go.RL Go.DL Go.KS
theorem i64_snoc {l : List Int} {x : Int} (h : I64 l) (hx : -9223372036854775808 ≤ x ∧ x ≤ 9223372036854775807) : I64 (l ++ [x]) := by
  intro y hy
  rcases List.mem_append.1 hy with hy | hy
  · exact h y hy
  · rw [List.mem_singleton.1 hy]; exact hx
set_option maxRecDepth 100000 in
set_option maxHeartbeats 4000000 in
theorem klist_any (W : World) (v : Value) (zl : List Int) (hr : RdI .i64 W W.heap.size v zl) (hw : ∀ z ∈ zl, (Lit.int .i64 z).wf = true) :
    Calls Try.prog 10 #[v] W (RunsP 2 W) := by
  obtain ⟨A, c, rfl, hc, hm, hrr⟩ := hr
  have hr : RdI .i64 W W.heap.size (.slice A zl.length c) zl := ⟨A, c, rfl, hc, hm, hrr⟩
  have hS0 := Sr.made hr hw 59
  have hB0 := (Below.refl W.heap.size W).alloc (Nat.le_refl _) (.cells #[.slice A zl.length c, .int .i64 0] 59)
  clear hc hm hrr hr hw
  have HF := Lib.hid (kfrom_any A zl.length c W)
  go_enter Try.func10, Try.ntmps10
  go_wp2_with fail
  refine HF.out.mono ?_; rintro e w1 ⟨rfl, rfl⟩
  clear HF
  generalize W.alloc (.cells #[.slice A zl.length c, .int .i64 0] 59) = W1 at hS0 hB0
  go_wp2_with fail
  refine (kraw_any _ _ _ _ hS0).mono ?_; rintro e w0 ⟨V0, rfl, h0, hS1, hBu⟩
  have hB1 := hBu.below hB0 (Nat.le_refl _)
  have hV0 := bounds_i64 h0
  clear hS0 hB0 hBu h0
  go_wp2_with fail
  go_loopw [4, 5] (fun v x wr => ∃ (l : List Int) (V : Int), x = .int .i64 V ∧ OwnV (Value.int .i64) 2 wr (W.heap.size + 1) v l ∧ l.length ≤ 150 ∧ I64 l ∧ (-9223372036854775808 ≤ V ∧ V ≤ 9223372036854775807) ∧ Sr wr W.heap.size (.slice A zl.length c) zl ∧ Below W.heap.size W wr) (fun v _ _ => 400 - lenV v)
  case atStart => exact ⟨[], V0, rfl, OwnV.nil _ _ _ _, by decide, fun _ h => by simp at h, hV0, hS1, hB1⟩
  case round =>
    clear hS1 hB1 hV0
    obtain ⟨l, V, rfl, hown, hl, hI, hV, hS, hbel⟩ := hrel
    obtain ⟨A0, c0, rfl, hc1, hc2, -⟩ := hown.read
    unfold maxLen at hc2
    go_wp2_with fail
    refine (kleft_any _ _ _ _ hS).mono ?_; rintro e w2 ⟨b, rfl, hS2, hB2⟩
    have hown2 := hB2.own hown (by omega)
    have hbel2 := hB2.below hbel (Nat.le_refl _)
    clear hown hbel hS hB2
    by_cases hgo : b = true ∧ l.length < 150
    · obtain ⟨rfl, hl3⟩ := hgo
      go_wp2_with fail
      refine (knext_any _ _ _ _ 8 hS2 (by omega) (by omega)).mono ?_; rintro e w3 ⟨r, rfl, h8, hS3, hB3⟩
      have hown3 := hB3.own hown2 (by omega)
      have hbel3 := hB3.below hbel2 (Nat.le_refl _)
      clear hown2 hbel2 hB3 hS2
      obtain ⟨h8a, h8b⟩ := h8
      by_cases h0 : r = 0
      · subst h0
        go_wp2_with fail
        refine (kraw_any _ _ _ _ hS3).mono ?_; rintro e w5 ⟨V5, rfl, h5, hS5, hB5⟩
        have hV5 := bounds_i64 h5
        clear h5
        have hown5 := hB5.own hown3 (by omega)
        have hbel5 := hB5.below hbel3 (Nat.le_refl _)
        have hsz5 := hbel5.size
        have hszs := hS5.lt
        clear hown3 hbel3 hB5 hS3
        obtain ⟨V', hV'⟩ : ∃ V', V5 = V' := ⟨_, rfl⟩
        have hVb : -9223372036854775808 ≤ V' ∧ V' ≤ 9223372036854775807 := by rw [← hV']; exact hV5
        have HI2 := Lib.hid (i64_snoc hI hVb)
        have HO := Lib.hid (hown5.alloc (.cells #[.int .i64 V'] 2))
        have HBA := Lib.hid ((Below.refl (W.heap.size + 1) w5).alloc hszs (.cells #[.int .i64 V'] 2))
        have HL1 := Lib.hid (show l.length + [V'].length ≤ maxLen by unfold maxLen; simp only [List.length_cons, List.length_nil]; omega)
        have HL2 := Lib.hid (show (l.length + [V'].length) * 8 ≤ 140737488355328 by simp only [List.length_cons, List.length_nil]; omega)
        have HL3 := Lib.hid (show W.heap.size + 1 ≤ (w5.alloc (.cells #[.int .i64 V'] 2)).heap.size by simp; omega)
        go_wp2_with (at_builtin; refine wpl_appV (f := Value.int .i64) (fun _ => rfl) (.int .i64 0) rfl rfl _ _ 23 rfl (W.heap.size + 1) 2 8 Try.underlying23 Try.infI64 _ l rfl HO.out _ _ [V'] rfl (RdV.one _ _ _ _ _ (by decide) (by decide)) HL1.out HL2.out HL3.out ?_)
        intro v' w' hown' hb' _
        have hba := HBA.out.trans hb'
        obtain ⟨A6, c6, rfl, -, -, -⟩ := hown'.read
        clear hV'
        go_wp2_with fail
        go_roundw
        case rel => exact ⟨l ++ [V'], V', rfl, hown', by rw [List.length_append]; exact hl3, HI2.out, hVb, hS5.below hba (by omega), hbel5.trans (hba.mono (by omega))⟩
        case measure => simp only [lenV, List.length_append, List.length_cons, List.length_nil]; omega
      have hd0 : (r == 0) = false := beq_eq_false_iff_ne.2 h0
      by_cases h1 : r = 1
      · subst h1
        clear hd0 h0
        go_wp2_with fail
        refine (knext_any _ _ _ _ 1048576 hS3 (by omega) (by omega)).mono ?_; rintro e w5 ⟨r5, rfl, h5, hS5, hB5⟩
        obtain ⟨h5a, h5b⟩ := h5
        have hown5 := hB5.own hown3 (by omega)
        have hbel5 := hB5.below hbel3 (Nat.le_refl _)
        have hsz5 := hbel5.size
        have hszs := hS5.lt
        clear hown3 hbel3 hB5 hS3
        obtain ⟨V', hV'⟩ : ∃ V', wrap64 (V - r5) = V' := ⟨_, rfl⟩
        have hVb : -9223372036854775808 ≤ V' ∧ V' ≤ 9223372036854775807 := by rw [← hV']; exact wrap_bd _
        have HI2 := Lib.hid (i64_snoc hI hVb)
        have HO := Lib.hid (hown5.alloc (.cells #[.int .i64 V'] 2))
        have HBA := Lib.hid ((Below.refl (W.heap.size + 1) w5).alloc hszs (.cells #[.int .i64 V'] 2))
        have HL1 := Lib.hid (show l.length + [V'].length ≤ maxLen by unfold maxLen; simp only [List.length_cons, List.length_nil]; omega)
        have HL2 := Lib.hid (show (l.length + [V'].length) * 8 ≤ 140737488355328 by simp only [List.length_cons, List.length_nil]; omega)
        have HL3 := Lib.hid (show W.heap.size + 1 ≤ (w5.alloc (.cells #[.int .i64 V'] 2)).heap.size by simp; omega)
        go_wp2_with (at_builtin; refine wpl_appV (f := Value.int .i64) (fun _ => rfl) (.int .i64 0) rfl rfl _ _ 23 rfl (W.heap.size + 1) 2 8 Try.underlying23 Try.infI64 _ l rfl HO.out _ _ [V'] rfl (RdV.one _ _ _ _ _ (by decide) (by decide)) HL1.out HL2.out HL3.out ?_)
        intro v' w' hown' hb' _
        have hba := HBA.out.trans hb'
        obtain ⟨A6, c6, rfl, -, -, -⟩ := hown'.read
        clear hV'
        go_wp2_with fail
        go_roundw
        case rel => exact ⟨l ++ [V'], V', rfl, hown', by rw [List.length_append]; exact hl3, HI2.out, hVb, hS5.below hba (by omega), hbel5.trans (hba.mono (by omega))⟩
        case measure => simp only [lenV, List.length_append, List.length_cons, List.length_nil]; omega
      · have hd1 : (r == 1) = false := beq_eq_false_iff_ne.2 h1
        clear h0 h1
        go_wp2_with fail
        refine (knext_any _ _ _ _ 9 hS3 (by omega) (by omega)).mono ?_; rintro e w5 ⟨r5, rfl, h5, hS5, hB5⟩
        obtain ⟨h5a, h5b⟩ := h5
        have hown5 := hB5.own hown3 (by omega)
        have hbel5 := hB5.below hbel3 (Nat.le_refl _)
        have hsz5 := hbel5.size
        have hszs := hS5.lt
        clear hown3 hbel3 hB5 hS3
        obtain ⟨V', hV'⟩ : ∃ V', wrap64 (V + r5) = V' := ⟨_, rfl⟩
        have hVb : -9223372036854775808 ≤ V' ∧ V' ≤ 9223372036854775807 := by rw [← hV']; exact wrap_bd _
        have HI2 := Lib.hid (i64_snoc hI hVb)
        have HO := Lib.hid (hown5.alloc (.cells #[.int .i64 V'] 2))
        have HBA := Lib.hid ((Below.refl (W.heap.size + 1) w5).alloc hszs (.cells #[.int .i64 V'] 2))
        have HL1 := Lib.hid (show l.length + [V'].length ≤ maxLen by unfold maxLen; simp only [List.length_cons, List.length_nil]; omega)
        have HL2 := Lib.hid (show (l.length + [V'].length) * 8 ≤ 140737488355328 by simp only [List.length_cons, List.length_nil]; omega)
        have HL3 := Lib.hid (show W.heap.size + 1 ≤ (w5.alloc (.cells #[.int .i64 V'] 2)).heap.size by simp; omega)
        go_wp2_with (at_builtin; refine wpl_appV (f := Value.int .i64) (fun _ => rfl) (.int .i64 0) rfl rfl _ _ 23 rfl (W.heap.size + 1) 2 8 Try.underlying23 Try.infI64 _ l rfl HO.out _ _ [V'] rfl (RdV.one _ _ _ _ _ (by decide) (by decide)) HL1.out HL2.out HL3.out ?_)
        intro v' w' hown' hb' _
        have hba := HBA.out.trans hb'
        obtain ⟨A6, c6, rfl, -, -, -⟩ := hown'.read
        clear hV'
        go_wp2_with fail
        go_roundw
        case rel => exact ⟨l ++ [V'], V', rfl, hown', by rw [List.length_append]; exact hl3, HI2.out, hVb, hS5.below hba (by omega), hbel5.trans (hba.mono (by omega))⟩
        case measure => simp only [lenV, List.length_append, List.length_cons, List.length_nil]; omega
    · rcases Bool.eq_false_or_eq_true b with rfl | rfl
      · have hl3 : ¬ l.length < 150 := fun h => hgo ⟨rfl, h⟩
        clear hgo
        go_wp2
        go_ret
        exact RunsP.mk rfl (hown2.lower (by omega)) (by omega) hI hbel2
      · clear hgo
        go_wp2
        go_ret
        exact RunsP.mk rfl (hown2.lower (by omega)) (by omega) hI hbel2
theorem enc_101214 : str (encX [10, 12, 14]) = ⟨#[20, 4, 0]⟩ := by
  have e1 : wrap64 (12 - 10) = 2 := by unfold wrap64; omega
  have e2 : wrap64 (14 - 12) = 2 := by unfold wrap64; omega
  have hd : df [10, 12, 14] = List.replicate 2 2 := by
    show [wrap64 (12 - 10), wrap64 (14 - 12)] = _
    rw [e1, e2]; rfl
  have hp : packed (List.replicate 2 0) 0 = [] := List.eq_nil_of_length_eq_zero (by rw [packed_len]; rfl)
  have hl : lst (List.replicate 2 (2 : Int)) = 2 := lst_rep 2 2 (by decide)
  have ho : offs (List.replicate 2 (2 : Int)) = List.replicate 2 0 := by unfold offs off; rw [hl]; decide
  have hg : gr (List.replicate 2 0) = 0 := by decide
  have hw : wd (List.replicate 2 (2 : Int)) = 0 := by unfold wd; rw [ho, hg, wid_zero]
  have z1 : (zigN 10).toNat = 20 := by decide
  have z2 : (zigN 2).toNat = 4 := by decide
  have ht : (List.replicate 2 (2 : Int)).take 32 = List.replicate 2 2 := by decide
  have hdr : (List.replicate 2 (2 : Int)).drop 32 = [] := by decide
  have hb : blk (List.replicate 2 (2 : Int)) = putL 4 ++ [0] := by
    unfold blk
    rw [hl, hw, ho, z2, hp, List.append_nil]
    rfl
  rw [encX_in (by decide), hd, encB_go (by decide), ht, hdr, encB_nil, hb, z1, putL_lt (by decide), putL_lt (by decide)]
  rfl
theorem i64_101214 : I64 [10, 12, 14] := by intro z hz; simp at hz; omega
theorem enc101214_any (e : TypeId) (m : Nat) (hm : 3 ≤ m) (hm2 : m ≤ maxLen) (w : World) :
    Calls Try.prog 9 #[.slice (some ⟨w.heap.size, 0, none⟩) 3 m] (w.alloc (.cells #[.int .i64 10, .int .i64 12, .int .i64 14] e)) (RetB (.string ⟨#[20, 4, 0]⟩) (w.alloc (.cells #[.int .i64 10, .int .i64 12, .int .i64 14] e))) := by
  have h := dencode_any _ [10, 12, 14] _ _ (RdV.lit (Value.int .i64) w [10, 12, 14] m e hm hm2) (by simp) i64_101214
  rw [enc_101214] at h
  exact h
set_option maxRecDepth 100000 in
set_option maxHeartbeats 400000 in
theorem awake11_any (w : World) : Calls Try.prog 11 #[] w (RetB (.bool true) w) := by
  go_enter Try.func11, Try.ntmps11
  go_wp2_with fail
  refine (enc101214_any _ _ (by decide) (by decide) _).mono ?_
  rintro e w' ⟨rfl, hb⟩
  have hb' := ((Below.refl w.heap.size w).alloc (Nat.le_refl _) (.cells #[.int .i64 10, .int .i64 12, .int .i64 14] 2)).trans (hb.mono (by simp))
  clear hb
  go_wp2
  go_ret
  exact RetB.mk rfl hb'
theorem lit_eqD {a b : Nat} (h : a = b) : ((a : Int) == (b : Int)) = true := by rw [h]; exact beq_self_eq_true _
set_option maxRecDepth 100000 in
set_option maxHeartbeats 1000000 in
theorem decodes_any (s : ByteArray) (n : Int) (w : World) (hs : s.size ≤ 140737488351232) :
    Calls Try.prog 13 #[.string s, .int .i64 n] w (RetB (.bool true) w) := by
  have H1 := fun w => Lib.hid (ddecode_any s n w hs)
  have H2 := fun w => Lib.hid (rddecode_any s n w hs)
  generalize decX s n = R at *
  go_enter Try.func13, Try.ntmps13
  go_wp2_with fail
  refine (H1 _).out.mono ?_; rintro e w1 ⟨v1, rfl, hown1, hB⟩
  have hr1 := hown1.read
  clear hown1
  go_wp2_with fail
  refine (H2 _).out.mono ?_; rintro e w2 ⟨v2, rfl, hown2, hb⟩
  have hr2 := hown2.read
  replace hr1 := hr1.step hb
  replace hB := bel_trans hB hb
  clear hown2 hb
  go_wp2_with fail
  refine (same_i_eq _ _ R.1 _ _ hr1 hr2 (Nat.le_refl _)).mono ?_; rintro e w3 ⟨rfl, hb⟩
  replace hB := bel_trans hB hb
  clear hb hr1 hr2
  go_wp2
  go_ret
  exact RetB.mk rfl hB
end Go.Proofs.Ytjoohmifbkbpbaa
