/- The walks over Check, of package schema and of the reference. -/
import Derived.Test.YtjbkeipagdmlpaaSchW3
namespace Go.Proofs.Ytjbkeipagdmlpaa
open Go.RowKit Go.VB Go.VL Go.SC
set_option linter.constructorNameAsVariable false
set_option maxRecDepth 100000 in
set_option maxHeartbeats 4000000 in
theorem check_any (cs : List Col) (v : Value) (key : Int) (W : World) (hr : RdC W W.heap.size v cs) :
    Calls Try.prog 42 #[.agg #[v, .int .i64 key]] W (RetB (.int .i64 (chkS cs key : Nat)) W) := by
  have HK := fun (i : Nat) (w : World) (hb : Below W.heap.size W w) hi => Lib.hid (checkCol_any cs v key i w (hr.step hb) hi)
  have hV2 := Var2.new W v (.int .i64 key) 28
  have hB : Below W.heap.size W (W.alloc (.cells #[v, .int .i64 key] 28)) := (Below.refl _ _).alloc (Nat.le_refl _) _
  obtain ⟨A, c, rfl, hc, hm, hrr⟩ := hr
  clear hrr
  unfold maxLen at hm
  by_cases h0 : cs.length = 0
  · have HE : Hid (chkS cs key = 1) := Lib.hid (by unfold chkS; rw [if_pos h0])
    have hd : ((cs.length : Int) == 0) = true := ieq_t (by omega)
    clear HK h0
    obtain ⟨l0, l1, _, _⟩ := hV2
    go_enter Try.func42, Try.ntmps42
    go_wp2_with fail
    go_ret
    exact RetB.mk (by rw [HE.out]; rfl) hB
  have hd0 : ((cs.length : Int) == 0) = false := ieq_f (by omega)
  by_cases h12 : 12 < cs.length
  · have HE : Hid (chkS cs key = 7) := Lib.hid (by unfold chkS; rw [if_neg h0, if_pos h12])
    clear HK h0
    obtain ⟨l0, l1, _, _⟩ := hV2
    go_enter Try.func42, Try.ntmps42
    go_wp2_with fail
    go_ret
    exact RetB.mk (by rw [HE.out]; rfl) hB
  have HH := fun j => Lib.hid (chkS_hit (cs := cs) (key := key) (j := j) (by omega))
  have HM := Lib.hid (chkS_end (cs := cs) (key := key) h0 (by omega))
  have HV := Lib.hid hV2
  obtain ⟨l0, l1, _, _⟩ := hV2
  go_enter Try.func42, Try.ntmps42
  go_wp2_with fail
  clear l0 l1
  go_loopw [2, 3, 4, 16] (fun r _ _ j wr => ∃ k : Nat, r = .int .i64 0 ∧ j = .int .i64 k ∧ k ≤ cs.length ∧ Below W.heap.size W wr ∧ Hid (Var2 wr W.heap.size (.slice A cs.length c) (.int .i64 key)) ∧ Hid (∀ m, m < k → chkCol cs m = 0)) (fun _ _ _ j _ => cs.length - (intOf j).toNat)
  case atStart => exact ⟨0, rfl, rfl, Nat.zero_le _, hB, HV, Lib.hid none_below⟩
  case round =>
    obtain ⟨k, rfl, rfl, hk, hB, HVw, HP⟩ := hrel
    by_cases hlt : k < cs.length
    · obtain ⟨l0, l1, _, _⟩ := HVw.out
      have HKk := Lib.hid (HK k wr hB hlt).out
      have HHk := fun h => Lib.hid ((HH k).out hlt HP.out h)
      have HN := fun h => Lib.hid (snoc (p := fun m => chkCol cs m = 0) (j := k) HP.out h)
      clear HK HH HM HV HP
      go_wp2_with fail
      refine HKk.out.mono ?_
      rintro e w2 ⟨rfl, hb⟩
      replace hB := bel_trans hB hb
      have HV2 := Lib.hid (HVw.out.step hb)
      clear HKk HVw l0 l1 hb
      by_cases he : chkCol cs k = 0
      · have HE := HN he
        have hd : ((chkCol cs k : Int) != 0) = false := ine_f (by omega)
        clear HHk HN he
        generalize chkCol cs k = E at *
        go_wp2_with fail
        go_roundw
        case rel => exact ⟨k + 1, rfl, by go_num, hlt, hB, HV2, HE⟩
        case measure => simp [intOf] <;> omega
      · have HE := HHk he
        have hd : ((chkCol cs k : Int) != 0) = true := ine_t (by omega)
        clear HHk HN he
        generalize chkCol cs k = E at *
        go_wp2_with fail
        go_ret
        exact RetB.mk (by rw [HE.out]; rfl) hB
    · obtain ⟨l0, l1, _, _⟩ := HVw.out
      have HE := Lib.hid (HM.out (fun j hj => HP.out j (by omega)))
      clear HM HP HK HH HV HVw
      by_cases h1 : key < 0
      · have h1' : decide (key < 0) = true := decide_eq_true h1
        have HE2 := Lib.hid (HE.out.trans (if_pos (.inl h1)))
        clear HE
        go_wp2_with fail
        go_ret
        exact RetB.mk (by rw [HE2.out]; rfl) hB
      · have h1' : decide (key < 0) = false := decide_eq_false h1
        by_cases h2 : (cs.length : Int) ≤ key
        · have HE2 := Lib.hid (HE.out.trans (if_pos (.inr h2)))
          clear HE
          go_wp2_with fail
          go_ret
          exact RetB.mk (by rw [HE2.out]; rfl) hB
        · have HE2 := Lib.hid (HE.out.trans (if_neg (by omega)))
          clear HE
          go_wp2_with fail
          go_ret
          exact RetB.mk (by rw [HE2.out]; rfl) hB
set_option maxRecDepth 100000 in
set_option maxHeartbeats 4000000 in
theorem rcheck_any (cs : List Col) (v : Value) (key : Int) (W : World) (hr : RdC W W.heap.size v cs) :
    Calls Try.prog 44 #[.agg #[v, .int .i64 key]] W (RetB (.int .i64 (chkS cs key : Nat)) W) := by
  have hV2 := Var2.new W v (.int .i64 key) 28
  have hB0 : Below W.heap.size W (W.alloc (.cells #[v, .int .i64 key] 28)) := (Below.refl _ _).alloc (Nat.le_refl _) _
  obtain ⟨A, c, rfl, hc, hm, hrr⟩ := hr
  have hX : ∀ j, j < cs.length → ∃ ad, A = some ad ∧ ad.block < W.heap.size ∧ At4 W ad j (cs.getD j col0) := hrr
  clear hrr
  unfold maxLen at hm
  have HX := Lib.hid hX; clear hX
  by_cases h0 : cs.length = 0
  · have HE : Hid (chkS cs key = 1) := Lib.hid (by unfold chkS; rw [if_pos h0])
    have hd : ((cs.length : Int) == 0) = true := ieq_t (by omega)
    clear HX h0
    obtain ⟨l0, l1, _, _⟩ := hV2
    go_enter Try.func44, Try.ntmps44
    go_wp2_with fail
    go_ret
    exact RetB.mk (by rw [HE.out]; rfl) hB0
  have hd0 : ((cs.length : Int) == 0) = false := ieq_f (by omega)
  by_cases h12 : 12 < cs.length
  · have HE : Hid (chkS cs key = 7) := Lib.hid (by unfold chkS; rw [if_neg h0, if_pos h12])
    clear HX h0
    obtain ⟨l0, l1, _, _⟩ := hV2
    go_enter Try.func44, Try.ntmps44
    go_wp2_with fail
    go_ret
    exact RetB.mk (by rw [HE.out]; rfl) hB0
  have HH := fun j => Lib.hid (chkS_hit (cs := cs) (key := key) (j := j) (by omega))
  have HM := Lib.hid (chkS_end (cs := cs) (key := key) h0 (by omega))
  have HV := Lib.hid hV2
  have HRN := fun s w => Lib.hid (rname_any s w)
  have HRT := fun t w => Lib.hid (rtyped_any t w)
  obtain ⟨l0, l1, _, _⟩ := hV2
  go_enter Try.func44, Try.ntmps44
  go_wp2_with fail
  clear l0 l1
  go_loopw [2, 3, 4, 6, 18] (fun r _ _ _ j wr => ∃ k : Nat, r = .int .i64 0 ∧ j = .int .i64 k ∧ k ≤ cs.length ∧ Below W.heap.size W wr ∧ Hid (Var2 wr W.heap.size (.slice A cs.length c) (.int .i64 key)) ∧ Hid (∀ m, m < k → chkCol cs m = 0)) (fun _ _ _ _ j _ => cs.length - (intOf j).toNat)
  case atStart => exact ⟨0, rfl, rfl, Nat.zero_le _, hB0, HV, Lib.hid none_below⟩
  case round =>
    clear hB0
    obtain ⟨k, rfl, rfl, hk, hB, HVw, HP⟩ := hrel
    by_cases hlt : k < cs.length
    · obtain ⟨l0, l1, _, _⟩ := HVw.out
      obtain ⟨ad, rfl, hab, hat⟩ := HX.out k hlt
      obtain ⟨q0, q1, q2, q3⟩ := hat.below hB hab
      have HHk := fun h => Lib.hid ((HH k).out hlt HP.out h)
      have HN := fun h => Lib.hid (snoc (p := fun m => chkCol cs m = 0) (j := k) HP.out h)
      have C1 := fun h => Lib.hid (chkCol_name (cs := cs) (i := k) h)
      have C2 := fun h h2 => Lib.hid (chkCol_dup (cs := cs) (i := k) h h2)
      have C3 := fun h h2 h3 => Lib.hid (chkCol_type (cs := cs) (i := k) h h2 h3)
      have C4 := fun h h2 h3 => Lib.hid (chkCol_scale (cs := cs) (i := k) h h2 h3)
      clear HH HM HV HP hat
      generalize cs.getD k col0 = C at *
      obtain ⟨cn, ct, csc, cnu⟩ := C
      have HRNc := fun w => Lib.hid (HRN cn w).out
      have HRTc := fun w => Lib.hid (HRT ct w).out
      clear HRN HRT
      have hV4 := Var4.new wr (.string cn) (.int .i64 ct) (.int .i64 csc) (.bool cnu) 66
      have HV2 := Lib.hid (HVw.out.step ((Below.refl _ _).alloc (Nat.le_refl _) (.cells #[.string cn, .int .i64 ct, .int .i64 csc, .bool cnu] 66)))
      have hB2 : Below W.heap.size W (wr.alloc (.cells #[.string cn, .int .i64 ct, .int .i64 csc, .bool cnu] 66)) := hB.alloc hB.size _
      have HV4 := Lib.hid hV4
      obtain ⟨k0, k1, k2, k3⟩ := hV4
      go_wp2_with fail
      clear q0 q1 q2 q3 l0 l1 HVw hB
      generalize wr.heap.size = g at *
      generalize wr.alloc (.cells #[.string cn, .int .i64 ct, .int .i64 csc, .bool cnu] 66) = w1 at *
      refine (HRNc _).out.mono ?_
      rintro e w1' ⟨rfl, rfl⟩
      clear HRNc
      cases hn : nameS cn with
      | false =>
        have HE := C1 hn
        have HE2 := Lib.hid ((HHk (by rw [HE.out]; decide)).out.trans HE.out)
        clear C1 C2 C3 C4 hn HHk HN HRTc HE
        go_wp2_with fail
        go_ret
        exact RetB.mk (by rw [HE2.out]; rfl) hB2
      | true =>
      replace C2 := C2 hn
      replace C3 := C3 hn
      replace C4 := C4 hn
      clear C1 hn
      obtain ⟨l0, l1, _, _⟩ := HV2.out
      have hkc : (k : Int) ≤ c := by omega
      go_wp2_with fail
      clear l0 l1 k0 k1 k2 k3
      go_loopw [2, 6, 32] (fun r _ j wx => ∃ m : Nat, r = .int .i64 0 ∧ j = .int .i64 m ∧ m ≤ k ∧ Below W.heap.size W wx ∧ Below w1.heap.size w1 wx ∧ Hid (∀ n, n < m → ¬ (cs.getD n col0).nm = cn)) (fun _ _ j _ => k - (intOf j).toNat)
      case atStart => exact ⟨0, rfl, rfl, Nat.zero_le _, hB2, Below.refl _ _, Lib.hid none_below⟩
      case round =>
        obtain ⟨m, rfl, rfl, hm', hBx, hbx, HPx⟩ := hrel
        by_cases hltm : m < k
        · obtain ⟨ad', had, hab', hat'⟩ := HX.out m (by omega)
          cases had
          obtain ⟨q0, q1, q2, q3⟩ := hat'.below hBx hab'
          obtain ⟨k0, k1, k2, k3⟩ := HV4.out.step hbx
          have HNx := fun h => Lib.hid (snoc (p := fun n => ¬ (cs.getD n col0).nm = cn) (j := m) HPx.out h)
          have HDx := fun h => C2 ⟨m, hltm, h⟩
          clear hat' C2 C3 C4 HPx HV4 HV2 HX HN HRTc
          generalize cs.getD m col0 = D at *
          obtain ⟨dn, dt, dsc, dnu⟩ := D
          replace HNx : ¬ dn = cn → Hid (∀ n, n < m + 1 → ¬ (cs.getD n col0).nm = cn) := HNx
          replace HDx : dn = cn → Hid (chkCol cs k = 5) := HDx
          have hBx2 := fun o => hBx.alloc hBx.size o
          have hbx2 := fun o => hbx.alloc hbx.size o
          have k0' : ∀ o, (wr.alloc o).cell? ⟨g, 0, none⟩ = some (.string cn) := fun o => (World.cell?_alloc_past o g 0 (World.block_lt_of_cell? wr _ k0)).trans k0
          by_cases he : dn = cn
          · have HE := HDx he
            have HE2 := Lib.hid ((HHk (by rw [HE.out]; decide)).out.trans HE.out)
            have ht := text_eq he
            clear HDx HNx HHk HE he k1 k2 k3
            go_wp2_with fail
            go_ret
            exact RetB.mk (by rw [HE2.out]; rfl) (hBx2 _)
          · have HE := HNx he
            have ht := text_ne he
            clear HDx HNx HHk he k1 k2 k3
            go_wp2_with fail
            go_roundw
            case rel => exact ⟨m + 1, rfl, by go_num, hltm, hBx2 _, hbx2 _, HE⟩
            case measure => simp [intOf] <;> omega
        · have hno : ¬ ∃ j, j < k ∧ (cs.getD j col0).nm = cn := fun ⟨j, hj, he⟩ => HPx.out j (by omega) he
          replace C3 := C3 hno
          replace C4 := C4 hno
          have HVx := Lib.hid (HV2.out.step hbx)
          obtain ⟨k0, k1, k2, k3⟩ := HV4.out.step hbx
          clear C2 hno HPx HV4 HV2 HX hB2 hbx
          cases ht : okT ct with
          | false =>
            have HE := C3 ht
            have HE2 := Lib.hid ((HHk (by rw [HE.out]; decide)).out.trans HE.out)
            rw [ht] at HRTc
            clear C3 C4 HHk HN HE ht
            go_wp2_with (go_at_call 60; refine (HRTc _).out.mono ?_; rintro e w' ⟨rfl, rfl⟩)
            go_ret
            exact RetB.mk (by rw [HE2.out]; rfl) hBx
          | true =>
          have HE := C4 ht
          rw [ht] at HRTc
          clear C3 C4 ht
          by_cases hs : csc < 0
          · have hs' : decide (csc < 0) = true := decide_eq_true hs
            rw [if_pos (.inl hs)] at HE
            have HE2 := Lib.hid ((HHk (by rw [HE.out]; decide)).out.trans HE.out)
            clear HHk HN HE
            go_wp2_with (go_at_call 60; refine (HRTc _).out.mono ?_; rintro e w' ⟨rfl, rfl⟩)
            go_ret
            exact RetB.mk (by rw [HE2.out]; rfl) hBx
          have hs' : decide (csc < 0) = false := decide_eq_false hs
          by_cases hg : 18 < csc
          · have hg' : decide (18 < csc) = true := decide_eq_true hg
            rw [if_pos (.inr (.inl hg))] at HE
            have HE2 := Lib.hid ((HHk (by rw [HE.out]; decide)).out.trans HE.out)
            clear HHk HN HE
            go_wp2_with (go_at_call 60; refine (HRTc _).out.mono ?_; rintro e w' ⟨rfl, rfl⟩)
            go_ret
            exact RetB.mk (by rw [HE2.out]; rfl) hBx
          have hg' : decide (18 < csc) = false := decide_eq_false hg
          by_cases h5 : ct = 5
          · have h5' : (ct != 5) = false := ine_f h5
            rw [if_neg (by omega)] at HE
            have HE2 := HN HE.out
            clear HHk HN HE hs hg h5
            go_wp2_with (go_at_call 60; refine (HRTc _).out.mono ?_; rintro e w' ⟨rfl, rfl⟩)
            go_roundw
            case rel => exact ⟨k + 1, rfl, by go_num, hlt, hBx, HVx, HE2⟩
            case measure => simp [intOf] <;> omega
          have h5' : (ct != 5) = true := ine_t h5
          by_cases h00 : csc = 0
          · have h0' : (csc != 0) = false := ine_f h00
            rw [if_neg (by omega)] at HE
            have HE2 := HN HE.out
            clear HHk HN HE hs hg h5 h00
            go_wp2_with (go_at_call 60; refine (HRTc _).out.mono ?_; rintro e w' ⟨rfl, rfl⟩)
            go_roundw
            case rel => exact ⟨k + 1, rfl, by go_num, hlt, hBx, HVx, HE2⟩
            case measure => simp [intOf] <;> omega
          · have h0' : (csc != 0) = true := ine_t h00
            rw [if_pos (.inr (.inr ⟨h5, h00⟩))] at HE
            have HE2 := Lib.hid ((HHk (by rw [HE.out]; decide)).out.trans HE.out)
            clear HHk HN HE
            go_wp2_with (go_at_call 60; refine (HRTc _).out.mono ?_; rintro e w' ⟨rfl, rfl⟩)
            go_ret
            exact RetB.mk (by rw [HE2.out]; rfl) hBx
    · obtain ⟨l0, l1, _, _⟩ := HVw.out
      have HE := Lib.hid (HM.out (fun j hj => HP.out j (by omega)))
      clear HM HP HH HV HVw HX
      by_cases h1 : key < 0
      · have h1' : decide (key < 0) = true := decide_eq_true h1
        have HE2 := Lib.hid (HE.out.trans (if_pos (.inl h1)))
        clear HE
        go_wp2_with fail
        go_ret
        exact RetB.mk (by rw [HE2.out]; rfl) hB
      · have h1' : decide (key < 0) = false := decide_eq_false h1
        by_cases h2 : (cs.length : Int) ≤ key
        · have HE2 := Lib.hid (HE.out.trans (if_pos (.inr h2)))
          clear HE
          go_wp2_with fail
          go_ret
          exact RetB.mk (by rw [HE2.out]; rfl) hB
        · have HE2 := Lib.hid (HE.out.trans (if_neg (by omega)))
          clear HE
          go_wp2_with fail
          go_ret
          exact RetB.mk (by rw [HE2.out]; rfl) hB
end Go.Proofs.Ytjbkeipagdmlpaa
