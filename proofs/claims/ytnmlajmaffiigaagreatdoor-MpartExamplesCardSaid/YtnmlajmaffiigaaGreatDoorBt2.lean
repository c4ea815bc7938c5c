/- The walks over Check, of package schema and of the reference. -/
import Derived.Test.YtnmlajmaffiigaaGreatDoorGs
import Derived.Test.YtnmlajmaffiigaaGreatDoorGb
namespace Go.Proofs.YtnmlajmaffiigaaGreatDoor
open Go.RowKit Go.VB Go.VL Go.SC
set_option linter.constructorNameAsVariable false
set_option maxRecDepth 100000 in
set_option maxHeartbeats 4000000 in
theorem check_any (cs : List Col) (v : Value) (key : Int) (W : World) (hr : RdC W W.heap.size v cs) :
    Calls Tryz.prog 55 #[.agg #[v, .int .i64 key]] W (RetB (.int .i64 (chkS cs key : Nat)) W) := by
  have HK := fun (i : Nat) (w : World) (hb : Below W.heap.size W w) hi => Lib.hid (checkCol_any cs v key i w (hr.step hb) hi)
  have hV2 := Var2.new W v (.int .i64 key) 24
  have hB : Below W.heap.size W (W.alloc (.cells #[v, .int .i64 key] 24)) := (Below.refl _ _).alloc (Nat.le_refl _) _
  obtain ⟨A, c, rfl, hc, hm, hrr⟩ := hr
  clear hrr
  unfold maxLen at hm
  by_cases h0 : cs.length = 0
  · have HE : Hid (chkS cs key = 1) := Lib.hid (by unfold chkS; rw [if_pos h0])
    have hd : ((cs.length : Int) == 0) = true := ieq_t (by omega)
    clear HK h0
    obtain ⟨l0, l1, _, _⟩ := hV2
    go_enter Tryz.func55, Tryz.ntmps55
    go_wp2_with fail
    go_ret
    exact RetB.mk (by rw [HE.out]; rfl) hB
  have hd0 : ((cs.length : Int) == 0) = false := ieq_f (by omega)
  by_cases h12 : 12 < cs.length
  · have HE : Hid (chkS cs key = 7) := Lib.hid (by unfold chkS; rw [if_neg h0, if_pos h12])
    clear HK h0
    obtain ⟨l0, l1, _, _⟩ := hV2
    go_enter Tryz.func55, Tryz.ntmps55
    go_wp2_with fail
    go_ret
    exact RetB.mk (by rw [HE.out]; rfl) hB
  have HH := fun j => Lib.hid (chkS_hit (cs := cs) (key := key) (j := j) (by omega))
  have HM := Lib.hid (chkS_end (cs := cs) (key := key) h0 (by omega))
  have HV := Lib.hid hV2
  obtain ⟨l0, l1, _, _⟩ := hV2
  go_enter Tryz.func55, Tryz.ntmps55
  go_wp2_with fail
  clear l0 l1
  go_loopw [2, 3, 4, 16] (fun r _ _ j wr => ∃ k : Nat, r = .int .i64 0 ∧ j = .int .i64 k ∧ k ≤ cs.length ∧ Below W.heap.size W wr ∧ Hid (Var2 wr W.heap.size (.slice A cs.length c) (.int .i64 key)) ∧ Hid (∀ m, m < k → chkCol cs m = 0)) (fun _ _ _ j _ => cs.length - (intOf j).toNat)
  case atStart => exact ⟨0, rfl, rfl, Nat.zero_le _, hB, HV, Lib.hid none_below⟩
  case round =>
    obtain ⟨k, rfl, rfl, hk, hB, HVw, HP⟩ := hrel
    by_cases hlt : k < cs.length
    · obtain ⟨l0, l1, _, _⟩ := HVw.out
      have HKk := Lib.hid (HK k wr hB hlt).out
      have HHk := fun h => Lib.hid ((HH k).out hlt HP.out h)
      have HN := fun h => Lib.hid (snoc (p := fun m => chkCol cs m = 0) (j := k) HP.out h)
      clear HK HH HM HV HP
      go_wp2_with fail
      refine HKk.out.mono ?_
      rintro e w2 ⟨rfl, hb⟩
      replace hB := bel_trans hB hb
      have HV2 := Lib.hid (HVw.out.step hb)
      clear HKk HVw l0 l1 hb
      by_cases he : chkCol cs k = 0
      · have HE := HN he
        have hd : ((chkCol cs k : Int) != 0) = false := ine_f (by omega)
        clear HHk HN he
        generalize chkCol cs k = E at *
        go_wp2_with fail
        go_roundw
        case rel => exact ⟨k + 1, rfl, by go_num, hlt, hB, HV2, HE⟩
        case measure => simp [intOf] <;> omega
      · have HE := HHk he
        have hd : ((chkCol cs k : Int) != 0) = true := ine_t (by omega)
        clear HHk HN he
        generalize chkCol cs k = E at *
        go_wp2_with fail
        go_ret
        exact RetB.mk (by rw [HE.out]; rfl) hB
    · obtain ⟨l0, l1, _, _⟩ := HVw.out
      have HE := Lib.hid (HM.out (fun j hj => HP.out j (by omega)))
      clear HM HP HK HH HV HVw
      by_cases h1 : key < 0
      · have h1' : decide (key < 0) = true := decide_eq_true h1
        have HE2 := Lib.hid (HE.out.trans (if_pos (.inl h1)))
        clear HE
        go_wp2_with fail
        go_ret
        exact RetB.mk (by rw [HE2.out]; rfl) hB
      · have h1' : decide (key < 0) = false := decide_eq_false h1
        by_cases h2 : (cs.length : Int) ≤ key
        · have HE2 := Lib.hid (HE.out.trans (if_pos (.inr h2)))
          clear HE
          go_wp2_with fail
          go_ret
          exact RetB.mk (by rw [HE2.out]; rfl) hB
        · have HE2 := Lib.hid (HE.out.trans (if_neg (by omega)))
          clear HE
          go_wp2_with fail
          go_ret
          exact RetB.mk (by rw [HE2.out]; rfl) hB
end Go.Proofs.YtnmlajmaffiigaaGreatDoor

namespace Go.Proofs.YtnmlajmaffiigaaGreatDoor
open Go.RowKit Go.VB Go.VS Go.VL Go.SC Go.CK Go.ST Go.MK Go.RS
set_option linter.constructorNameAsVariable false
set_option maxRecDepth 100000 in
set_option maxHeartbeats 1000000 in
theorem crow_any (cs : List Col) (v : Value) (key : Int) (x : Value) (l : List Vl) (W : World) (hr : RdC W W.heap.size v cs) (hx : RdL W W.heap.size x l) :
    Calls Tryz.prog 114 #[.agg #[v, .int .i64 key], x] W (RetB (.int .i64 (chkRow cs l : Nat)) W) := by
  obtain ⟨A, c, n, rfl, hn, hnc, hcm⟩ := hx.bds
  have HN := Lib.hid hn; clear hn
  obtain ⟨A2, c2, rfl, hc2, hm2, hrr⟩ := hr
  unfold maxLen at hm2
  have HX := Lib.hid hx
  have HCL := Lib.hid hrr
  clear hx hrr
  have HV := Lib.hid (Var2.new W (.slice A2 cs.length c2) (.int .i64 key) 24)
  have HB1 := Lib.hid ((Below.refl W.heap.size W).alloc (Nat.le_refl _) (.cells #[.slice A2 cs.length c2, .int .i64 key] 24))
  have HS1 := Lib.hid (show (W.alloc (.cells #[.slice A2 cs.length c2, .int .i64 key] 24)).heap.size = W.heap.size + 1 from by simp)
  have HH := fun j y => Lib.hid (chkRow_hit (cs := cs) (l := l) (j := j) (x := y))
  have HM := Lib.hid (chkRow_none (cs := cs) (l := l))
  have HL := Lib.hid (chkRow_len (cs := cs) (l := l))
  generalize chkRow cs l = E at *
  go_enter Tryz.func114, Tryz.ntmps114
  by_cases hlen : n = cs.length
  case neg =>
    have hd : ((n : Int) != (cs.length : Int)) = true := ine_t (by omega)
    have HE := Lib.hid (HL.out (by rw [← HN.out]; exact hlen))
    clear hlen HH HM HL
    go_wp2_with fail
    go_ret
    exact RetB.mk (by rw [HE.out]; rfl) HB1.out
  have hd : ((n : Int) != (cs.length : Int)) = false := ine_f (by omega)
  have hlc : l.length = cs.length := by have := HN.out; omega
  have HLC := Lib.hid hlc; have HNC := Lib.hid hlen
  clear HL hlc hlen
  go_wp2_with fail
  clear hd
  go_loopw [4, 5, 6, 7, 16] (fun r _ _ _ i wr => ∃ j : Nat, r = .int .i64 0 ∧ i = .int .i64 j ∧ j ≤ n ∧ Below (W.heap.size + 1) (W.alloc (.cells #[.slice A2 cs.length c2, .int .i64 key] 24)) wr ∧ Hid (∀ m y, m < j → l[m]? = some y → chkV (cs.getD m col0).ty (cs.getD m col0).nu y = 0)) (fun _ _ _ _ i _ => n - (intOf i).toNat)
  case atStart => exact ⟨0, rfl, rfl, Nat.zero_le _, Below.refl _ _, Lib.hid fun m y h => absurd h (Nat.not_lt_zero _)⟩
  case round =>
    obtain ⟨j, rfl, rfl, hj, hbel, HF⟩ := hrel
    have hbW : Below W.heap.size W wr := HB1.out.trans (hbel.mono (Nat.le_succ _))
    have hsz := hbel.size
    rw [HS1.out] at hsz
    by_cases hlt : j < n
    · have hlj : l[j]? = some l[j] := List.getElem?_eq_getElem (by have := HN.out; omega)
      obtain ⟨ad, rfl, _, q0, q1, q2⟩ := (HX.out.below hbW).at hlj
      obtain ⟨ad2, rfl, hab, hat⟩ := HCL.out j (by have := HNC.out; omega)
      have HJ := Lib.hid hlj; clear hlj
      have HHj := Lib.hid (fun y => (HH j y).out)
      generalize l[j] = X at q0 q1 q2 HJ
      obtain ⟨xb, xn, xs⟩ := X
      simp only at q0 q1 q2
      have HBV := Lib.hid (hbel.alloc hsz (.cells #[.bool xb, .int .i64 xn, .string xs] 49))
      obtain ⟨C, hCJ⟩ : ∃ C, cs.getD j col0 = C := ⟨_, rfl⟩
      rw [hCJ] at hat
      have HCJ := Lib.hid hCJ
      clear hCJ
      have HU := Lib.hid (show ∀ w, Below (wr.alloc (.cells #[.bool xb, .int .i64 xn, .string xs] 49)).heap.size (wr.alloc (.cells #[.bool xb, .int .i64 xn, .string xs] 49)) w → Var2 w W.heap.size (.slice (some ad2) cs.length c2) (.int .i64 key) ∧ Var3 w wr.heap.size (.bool xb) (.int .i64 xn) (.string xs) ∧ At4 w ad2 j C ∧ Below (W.heap.size + 1) (W.alloc (.cells #[.slice (some ad2) cs.length c2, .int .i64 key] 24)) w from fun w h =>
        have h2 := HBV.out.trans (h.mono (by simp; omega))
        ⟨HV.out.below h2 (Nat.lt_succ_self _), (Var3.new wr (.bool xb) (.int .i64 xn) (.string xs) 49).step h, hat.below (HB1.out.trans (h2.mono (Nat.le_succ _))) hab, h2⟩)
      obtain ⟨nm, ty, sc, nu⟩ := C
      have HC := fun w => Lib.hid (chk_any nm ty sc nu xb xn xs w)
      have hj3 : (j : Int) < (cs.length : Int) := by have := HNC.out; omega
      obtain ⟨D, hD⟩ : ∃ D, chkV ty nu ⟨xb, xn, xs⟩ = D := ⟨_, rfl⟩
      have hD' : chk ty nu xb xn xs = D := hD
      rw [hD'] at HC
      have HD := Lib.hid hD
      clear hD hD' hat
      go_wp2_with fail
      clear q0 q1 q2
      refine Go.Confl.wp_region_confl (by simp only [List.map_cons, List.map_nil]; rfl) (by kernel_rfl) (by kernel_rfl) ?_
      iterate 8
        first
        | (refine Go.Confl.chain_skip (Go.Confl.unwanted_is rfl rfl) ?_)
        | (first | apply Go.Confl.chain_is _ (Go.Confl.wanted_none rfl) | apply Go.Confl.chain_is _ (Go.Confl.wanted_is rfl rfl)
           · intro b w hr hb K hK
             simp [Go.Confl.readFacts, Go.Confl.tmpsOf, Go.Confl.writerOf, Go.Confl.Is, Op.operands, Call.operands, List.findIdx?, List.findIdx?.go] at hr
             obtain ⟨⟨v0, v1, _, _⟩, ⟨m0, m1, m2, _, _, _⟩, ⟨k0, k1, k2, k3⟩, _⟩ := HU.out _ hb
             simp only at k0 k1 k2 k3
             go_wp2_with (first
               | (go_at_call 149; (with_reducible refine (HC _).out.mono ?_); rintro e w' ⟨rfl, hb'⟩))
             try (simp only [hr]; go_wp2)
             exact hK _ _ rfl (by first | exact Below.refl _ _ | assumption))
        simp only [List.nil_append, List.cons_append]
      intro us w hp hb
      simp [Go.Confl.allPosts, Go.Confl.Is] at hp
      simp only [Go.Confl.putsFrom, hp, Act.put, List.setIfInBounds_toArray, List.set_cons_zero, List.set_cons_succ]
      obtain ⟨-, -, -, hb3⟩ := HU.out _ hb
      clear hb HU HC HBV
      by_cases h0 : D = 0
      · subst h0
        have HN2 := Lib.hid (show ∀ m y, m < j + 1 → l[m]? = some y → chkV (cs.getD m col0).ty (cs.getD m col0).nu y = 0 from fun m y hm hy => by
          by_cases e : m = j
          · subst e; rw [HJ.out] at hy; obtain rfl := Option.some.inj hy; rw [HCJ.out]; exact HD.out
          · exact HF.out m y (by omega) hy)
        go_wp2_with fail
        go_roundw
        case rel => exact ⟨j + 1, rfl, by go_num, hlt, hb3, HN2⟩
        case measure => simp [intOf] <;> omega
      · have hd : ((D : Int) != 0) = true := ine_t (by omega)
        have HE := Lib.hid (show E = D from (HHj.out _ HLC.out HJ.out (fun m y hm hy => HF.out m y hm hy) (by rw [HCJ.out]; show ¬ chkV ty nu ⟨xb, xn, xs⟩ = 0; rw [HD.out]; exact h0)).trans (by rw [HCJ.out]; exact HD.out))
        clear h0 HH HM HF HHj
        go_wp2_with fail
        go_ret
        exact RetB.mk (by rw [HE.out]; rfl) (HB1.out.trans (hb3.mono (Nat.le_succ _)))
    · have HE := Lib.hid (HM.out HLC.out (fun k y hy => HF.out k y (by have := (List.getElem?_eq_some_iff.1 hy).1; have := HN.out; omega) hy))
      clear HH HM HF
      go_wp2
      go_ret
      exact RetB.mk (by rw [HE.out]; rfl) hbW
set_option maxRecDepth 100000 in
set_option maxHeartbeats 1000000 in
theorem aval_any (cs : List Col) (v : Value) (key : Int) (x : Value) (l : List Rc) (W : World) (hr : RdC W W.heap.size v cs) (hx : RdR W W.heap.size x l) :
    Calls Tryz.prog 77 #[.agg #[v, .int .i64 key], x] W (RetB (.bool (valR cs key l)) W) := by
  obtain ⟨A, c, n, rfl, hn, hnc, hcm⟩ := hx.bds
  have HN := Lib.hid hn; clear hn
  have HX := Lib.hid hx; have HR := Lib.hid hr
  clear hx hr
  have HV := Lib.hid (Var2.new W v (.int .i64 key) 24)
  have HB1 := Lib.hid ((Below.refl W.heap.size W).alloc (Nat.le_refl _) (.cells #[v, .int .i64 key] 24))
  have HS1 := Lib.hid (show (W.alloc (.cells #[v, .int .i64 key] 24)).heap.size = W.heap.size + 1 from by simp)
  have hS := Lib.hid (check_any cs v key (W.alloc (.cells #[v, .int .i64 key] 24)) (HR.out.step HB1.out))
  have HHs := Lib.hid (valR_sch (cs := cs) (key := key) (l := l))
  have HH := fun j y => Lib.hid (valR_bad (cs := cs) (key := key) (l := l) (j := j) (r := y))
  have HM := Lib.hid (valR_ok (cs := cs) (key := key) (l := l))
  generalize valR cs key l = E at *
  generalize chkS cs key = T at *
  have hu := HV.out
  obtain ⟨v0, v1, _, _⟩ := hu
  go_enter Tryz.func77, Tryz.ntmps77
  go_wp2_with fail
  (with_reducible refine hS.out.mono ?_); rintro e w1 ⟨rfl, hb1⟩
  have HBb := Lib.hid (show Below (W.heap.size + 1) (W.alloc (.cells #[v, .int .i64 key] 24)) w1 from hb1.mono (by rw [HS1.out]; omega))
  clear hb1 v0 v1 hS
  by_cases h0 : T = 0
  case neg =>
    have hd : ((T : Int) != 0) = true := ine_t (by omega)
    have HE := Lib.hid (HHs.out h0)
    clear h0 HH HM HHs
    go_wp2_with fail
    go_ret
    exact RetB.mk (by first | (rw [HE.out]; rfl) | rw [HE.out]) (HB1.out.trans (HBb.out.mono (Nat.le_succ _)))
  subst h0
  clear HHs
  go_wp2_with fail
  go_loopw [4, 6, 12] (fun r _ i wr => ∃ j : Nat, r = .bool false ∧ i = .int .i64 j ∧ j ≤ n ∧ Below (W.heap.size + 1) (W.alloc (.cells #[v, .int .i64 key] 24)) wr ∧ Hid (∀ (m : Nat) (y : Rc), m < j → l[m]? = some y → okRec cs y = true)) (fun _ _ i _ => n - (intOf i).toNat)
  case atStart => exact ⟨0, rfl, rfl, Nat.zero_le _, HBb.out, Lib.hid fun m y h => absurd h (Nat.not_lt_zero _)⟩
  case round =>
    clear HBb
    obtain ⟨j, rfl, rfl, hj, hbel, HF⟩ := hrel
    have hbW : Below W.heap.size W wr := HB1.out.trans (hbel.mono (Nat.le_succ _))
    have hsz := hbel.size
    rw [HS1.out] at hsz
    by_cases hlt : j < n
    · have hlj : l[j]? = some l[j] := List.getElem?_eq_getElem (by have := HN.out; omega)
      obtain ⟨ad, rA, rn, rc, rfl, -, q0, q1, -, qr⟩ := (HX.out.below hbW).at hlj
      have HJ := Lib.hid hlj; clear hlj
      generalize l[j] = R at q0 q1 qr HJ
      obtain ⟨q, row⟩ := R
      simp only at q0 q1 qr
      have HBV := Lib.hid (hbel.alloc hsz (.cells #[.int .i64 q, .slice rA rn rc] 67))
      obtain ⟨v0, v1, _, _⟩ := HV.out.below HBV.out (Nat.lt_succ_self _)
      have hbw := (Below.refl wr.heap.size wr).alloc (Nat.le_refl _) (.cells #[.int .i64 q, .slice rA rn rc] 67)
      have HC := Lib.hid (crow_any cs v key (.slice rA rn rc) row (wr.alloc (.cells #[.int .i64 q, .slice rA rn rc] 67)) ((HR.out.step hbW).step hbw) ((qr.more (by omega : W.heap.size ≤ wr.heap.size)).step hbw))
      have HLE := Lib.hid (show W.heap.size + 1 ≤ (wr.alloc (.cells #[.int .i64 q, .slice rA rn rc] 67)).heap.size from by simp; omega)
      have HHj := HH j ⟨q, row⟩
      have Hlo := Lib.hid (okRec_lo (cs := cs) (r := ⟨q, row⟩))
      have Hhi := Lib.hid (okRec_hi (cs := cs) (r := ⟨q, row⟩))
      have Hrw := Lib.hid (okRec_row (cs := cs) (r := ⟨q, row⟩))
      have Hok := Lib.hid (okRec_ok (cs := cs) (r := ⟨q, row⟩))
      obtain ⟨D, hD⟩ : ∃ D, chkRow cs row = D := ⟨_, rfl⟩
      rw [hD] at HC
      have HD := Lib.hid hD
      clear hD qr HH hbw
      by_cases hlo : q < 0
      · have hd : decide (q < 0) = true := decide_eq_true hlo
        have HE := Lib.hid (HHj.out HJ.out (Hlo.out hlo))
        clear hlo HM HF HHj HC
        go_wp2_with fail
        go_ret
        exact RetB.mk (by first | (rw [HE.out]; rfl) | rw [HE.out]) (HB1.out.trans (HBV.out.mono (Nat.le_succ _)))
      have hd : decide (q < 0) = false := decide_eq_false hlo
      by_cases hhi : 1099511627776 < q
      · have hd2 : decide ((1099511627776 : Int) < q) = true := decide_eq_true hhi
        have HE := Lib.hid (HHj.out HJ.out (Hhi.out hhi))
        clear hlo hhi HM HF HHj HC
        go_wp2_with fail
        go_ret
        exact RetB.mk (by first | (rw [HE.out]; rfl) | rw [HE.out]) (HB1.out.trans (HBV.out.mono (Nat.le_succ _)))
      have hd2 : decide ((1099511627776 : Int) < q) = false := decide_eq_false hhi
      have Hok2 := Lib.hid (Hok.out hlo hhi)
      clear hlo hhi Hok Hlo Hhi
      go_wp2_with fail
      (with_reducible refine HC.out.mono ?_); rintro e w2 ⟨rfl, hb2⟩
      have hb3 := HBV.out.trans (hb2.mono HLE.out)
      clear hb2 q0 q1 v0 v1 HC HBV
      by_cases h0 : D = 0
      · subst h0
        have HN2 := Lib.hid (show ∀ (m : Nat) (y : Rc), m < j + 1 → l[m]? = some y → okRec cs y = true from fun m y hm hy => by
          by_cases e : m = j
          · subst e; rw [HJ.out] at hy; obtain rfl := Option.some.inj hy; exact (Hok2.out HD.out)
          · exact HF.out m y (by omega) hy)
        go_wp2_with fail
        go_roundw
        case rel => exact ⟨j + 1, rfl, by go_num, hlt, hb3, HN2⟩
        case measure => simp [intOf] <;> omega
      · have hd : ((D : Int) != 0) = true := ine_t (by omega)
        have HE := Lib.hid (HHj.out HJ.out (Hrw.out (by rw [HD.out]; exact h0)))
        clear h0 HM HF HHj
        go_wp2_with fail
        go_ret
        exact RetB.mk (by first | (rw [HE.out]; rfl) | rw [HE.out]) (HB1.out.trans (hb3.mono (Nat.le_succ _)))
    · have HE := Lib.hid (HM.out (by first | rfl | trivial) (fun k y hy => HF.out k y (by have := (List.getElem?_eq_some_iff.1 hy).1; have := HN.out; omega) hy))
      clear HH HM HF
      go_wp2
      go_ret
      exact RetB.mk (by first | (rw [HE.out]; rfl) | rw [HE.out]) hbW
end Go.Proofs.YtnmlajmaffiigaaGreatDoor
