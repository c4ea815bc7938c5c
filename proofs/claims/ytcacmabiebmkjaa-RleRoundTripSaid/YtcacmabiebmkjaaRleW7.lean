/- The walk over the reference's reading of runs. -/
import Derived.Test.YtcacmabiebmkjaaRleW5
namespace Go.Proofs.Ytcacmabiebmkjaa
open Go.RowKit Go.VB Go.VarM Go.RL
set_option maxHeartbeats 400000 in
theorem rsz_any (n : Int) (w : World) : Calls Try.prog 31 #[.int .i64 n] w (Ret (.bool (decide (0 ≤ n ∧ n ≤ 4096))) w) := by
  by_cases h0 : n < 0
  · rw [decide_eq_false (by omega)]
    go_enter Try.func31, Try.ntmps31
    go_wp2
    go_ret
    exact Ret.mk rfl
  have hd0 : decide (0 ≤ n) = true := decide_eq_true (by omega)
  by_cases h1 : 4096 < n
  · rw [decide_eq_false (by omega)]
    have hd1 : decide (n ≤ 4096) = false := decide_eq_false (by omega)
    go_enter Try.func31, Try.ntmps31
    go_wp2
    go_ret
    exact Ret.mk (by rw [← hd1]; rfl)
  have hd1 : decide (n ≤ 4096) = true := decide_eq_true (by omega)
  rw [decide_eq_true (by omega)]
  go_enter Try.func31, Try.ntmps31
  go_wp2
  go_ret
  exact Ret.mk (by rw [← hd1]; rfl)
theorem rget_is (s : ByteArray) (i : Int) (w : World) (hs : s.size ≤ maxLen) {a : Nat} {b : Int} {c : Nat} (h : getR s i = (a, b, c)) :
    Calls Try.prog 32 #[.string s, .int .i64 i] w (Ret (.tuple #[.int .u64 (a : Int), .int .i64 b, .int .i64 (c : Int)]) w) := by
  have := rget_any s i w hs
  rw [h] at this
  exact this
theorem rget_ok (s : ByteArray) (i : Int) (w : World) (hs : s.size ≤ maxLen) {a : Nat} {b : Int} (h : getR s i = (a, b, 0)) :
    Calls Try.prog 32 #[.string s, .int .i64 i] w (Ret (.tuple #[.int .u64 (a : Int), .int .i64 b, .int .i64 0]) w) := rget_is s i w hs h
set_option maxRecDepth 100000 in
set_option maxHeartbeats 4000000 in
theorem rdecode_any (s : ByteArray) (n : Int) (w : World) (hs : s.size ≤ 140737488351232) :
    Calls Try.prog 29 #[.string s, .int .i64 n] w (RetVE (Value.int .i64) 2 (decR s n).1 (decR s n).2 w) := by
  have h1 := fun w => rsz_any n w
  by_cases hn : n < 0 ∨ 4096 < n
  · rw [decR_out hn]
    rw [decide_eq_false (by omega)] at h1
    have HSZ := fun w => Lib.hid (h1 w); clear h1
    go_enter Try.func29, Try.ntmps29
    go_wp2_with (go_at_call 31; refine (HSZ _).out.mono ?_; rintro e w' ⟨rfl, rfl⟩)
    go_ret2
    exact RetVE.mk rfl (OwnV.nil _ _ _ _) (Below.refl _ _)
  obtain ⟨n, rfl⟩ : ∃ k : Nat, n = k := ⟨n.toNat, by omega⟩
  have hn' : n ≤ 4096 := by omega
  rw [decide_eq_true (by omega)] at h1
  have HSZ := fun w => Lib.hid (h1 w); clear h1
  clear hn
  rw [decR_in hn']
  have hmx : s.size ≤ maxLen := by unfold maxLen; omega
  generalize hR : dec s n 0 [] = R
  have HR := Lib.hid hR; clear hR
  go_enter Try.func29, Try.ntmps29
  go_wp2_with (go_at_call 31; refine (HSZ _).out.mono ?_; rintro e w' ⟨rfl, rfl⟩)
  clear HSZ
  go_loopw [6, 7] (fun v a wr => ∃ (ls : List Int) (p : Nat), a = .int .i64 p ∧ p ≤ s.size ∧ OwnV (Value.int .i64) 2 wr w.heap.size v ls ∧ ls.length ≤ n ∧ dec s n p ls = R ∧ Below w.heap.size w wr) (fun v _ _ => n - lenV v)
  case atStart => exact ⟨[], 0, rfl, Nat.zero_le _, OwnV.nil _ _ _ _, Nat.zero_le _, HR.out, Below.refl _ _⟩
  case round =>
    obtain ⟨ls, p, rfl, hp, hown, hln, hdec, hbel⟩ := hrel
    have HD := Lib.hid hdec; clear hdec
    obtain ⟨A, c, rfl, hc1, hc2, hcx⟩ := hown.read
    have HOWN := Lib.hid hown; clear hown
    unfold maxLen at hc2
    by_cases hlt : ls.length < n
    · obtain ⟨a, b, c1, hg⟩ : ∃ a b c, getR s p = (a, b, c) := ⟨_, _, _, rfl⟩
      by_cases hc0 : c1 = 0
      · subst hc0
        by_cases hk : 1 ≤ a ∧ a ≤ n - ls.length
        · obtain ⟨z, b', c2, hg2⟩ : ∃ a' b' c', getR s b = (a', b', c') := ⟨_, _, _, rfl⟩
          by_cases hc3 : c2 = 0
          · subst hc3
            obtain ⟨p', hpe, hpb⟩ : ∃ p' : Nat, b' = p' ∧ p' ≤ s.size := by
              obtain ⟨k, m, _, h2, _, h3, _⟩ := getR_zero hg2
              exact ⟨k + m, by omega, h3⟩
            subst hpe
            have HC1 := fun w => Lib.hid (rget_ok s p w hmx hg); have HC2 := fun w => Lib.hid (rget_ok s b w hmx hg2)
            have hz : z < 18446744073709551616 := by
              obtain ⟨_, _, _, _, _, _, _, h⟩ := getR_zero hg2; exact h
            have HC3 := fun w => Lib.hid (rzag_any z w (by omega) (by omega))
            have hd0 : ((a : Int) == 0) = false := by simp; omega
            clear hz
            have HG := Lib.hid hg; have HG2 := Lib.hid hg2
            have HGO := Lib.hid (dec_go (s := s) (l := ls) hlt hg hk hg2)
            have HVV := Lib.hid (dec_v (s := s) (l := ls) hlt hg hk hg2)
            obtain ⟨hk1, hk2⟩ := hk
            clear hg hg2
            generalize zagN (z : Int) = V at *
            by_cases hne : ls.length = 0
            · have hnil : ls = [] := List.eq_nil_of_length_eq_zero hne
              have HFIN := Lib.hid ((HGO.out (by rw [hnil]; simp)).symm.trans HD.out)
              have hl0 : ls.length ≤ 0 := by omega
              clear HGO HVV HD hcx hne hnil
              clear HG HG2
              go_wp2_with (first
                | (go_at_call 32; (with_reducible refine (HC1 _).out.mono ?_); rintro e w' ⟨rfl, rfl⟩)
                | (go_at_call 32; (with_reducible refine (HC2 _).out.mono ?_); rintro e w' ⟨rfl, rfl⟩)
                | (go_at_call 33; (with_reducible refine (HC3 _).out.mono ?_); rintro e w' ⟨rfl, rfl⟩))
              clear HC1 HC2 HC3
              go_loopw [6, 8] (fun v t wk => ∃ j m : Nat, t = .int .u64 m ∧ j + m ≤ a ∧ a ≤ j + m ∧ OwnV (Value.int .i64) 2 wk w.heap.size v (ls ++ List.replicate j V) ∧ Below w.heap.size w wk) (fun _ t _ => (intOf t).toNat)
              case atStart => exact ⟨0, a, rfl, by omega, by omega, by rw [List.replicate_zero, List.append_nil]; exact HOWN.out, hbel⟩
              case round =>
                obtain ⟨j, m, rfl, hj, hj2, hownj, hbelj⟩ := hrel
                have hlj : (ls ++ List.replicate j V).length = ls.length + j := by rw [List.length_append, List.length_replicate]
                have hszj := hbelj.size
                by_cases hja : 0 < m
                · have HLJ := Lib.hid hlj
                  have hbd : (ls ++ List.replicate j V).length ≤ 4096 := by omega
                  have HBD := Lib.hid hbd; clear hlj hbd
                  go_wp2_with (at_builtin; refine wpl_appV (f := Value.int .i64) (fun _ => rfl) (.int .i64 0) rfl rfl _ _ 23 rfl w.heap.size 2 8 Try.underlying23 Try.infI64 _ (ls ++ List.replicate j V) rfl (hownj.alloc _) _ _ [V] rfl (RdV.one _ _ _ _ _ (by decide) (by decide)) (by have := HBD.out; unfold maxLen; simp only [List.length_cons, List.length_nil]; omega) (by have := HBD.out; simp only [List.length_cons, List.length_nil]; omega) (by simp; omega) ?_)
                  intro v' w' hown' hb' _
                  go_wp2_with fail
                  go_roundw
                  case rel => exact ⟨j + 1, m - 1, vint (by omega), by omega, by omega, by rw [← rep_snoc, List.append_assoc]; exact hown', (hbelj.alloc hszj _).trans hb'⟩
                  case measure => simp [intOf] <;> omega
                · have hjj : j = a := by omega
                  have HJJ := Lib.hid hjj; clear hjj
                  have hfin : dec s n p' (ls ++ List.replicate a V) = R := HFIN.out
                  have HF := Lib.hid hfin; clear hfin
                  obtain ⟨A', c', hv', _, _, _⟩ := hownj.read
                  have HV' := Lib.hid hv'; have HLJ := Lib.hid hlj; clear hv' hlj
                  go_wp2_with fail
                  go_roundw
                  case rel => exact ⟨ls ++ List.replicate j V, p', rfl, hpb, hownj, by rw [HLJ.out]; omega, by rw [HJJ.out]; exact HF.out, hbelj⟩
                  case measure => rw [HV'.out]; simp only [lenV]; rw [HLJ.out]; omega
            · obtain ⟨V0, hV0⟩ : ∃ V0, ls[ls.length - 1]? = some V0 := ⟨_, List.getElem?_eq_getElem (by omega)⟩
              obtain ⟨ad, rfl, _, hgx⟩ := hcx _ _ hV0
              rw [← List.getLast?_eq_getElem?] at hV0
              have hl1 : 1 ≤ ls.length := by omega
              clear hne hcx
              by_cases hv : V0 = V
              · subst hv
                have hR := (HVV.out hV0).symm.trans HD.out
                have HR := Lib.hid hR
                have hd : (V0 == V0) = true := beq_self_eq_true _
                clear hV0 HVV HGO HD hR
                go_wp2_with (first
                  | (go_at_call 32; (with_reducible refine (HC1 _).out.mono ?_); rintro e w' ⟨rfl, rfl⟩)
                  | (go_at_call 32; (with_reducible refine (HC2 _).out.mono ?_); rintro e w' ⟨rfl, rfl⟩)
                  | (go_at_call 33; (with_reducible refine (HC3 _).out.mono ?_); rintro e w' ⟨rfl, rfl⟩))
                go_ret2
                rw [← HR.out]
                exact RetVE.mk rfl (OwnV.nil _ _ _ _) hbel
              · have HFIN := Lib.hid ((HGO.out (by rw [hV0]; simpa using hv)).symm.trans HD.out)
                have hd : (V0 == V) = false := beq_eq_false_iff_ne.2 hv
                clear HGO HVV HD hV0 hv
                clear HG HG2
                go_wp2_with (first
                  | (go_at_call 32; (with_reducible refine (HC1 _).out.mono ?_); rintro e w' ⟨rfl, rfl⟩)
                  | (go_at_call 32; (with_reducible refine (HC2 _).out.mono ?_); rintro e w' ⟨rfl, rfl⟩)
                  | (go_at_call 33; (with_reducible refine (HC3 _).out.mono ?_); rintro e w' ⟨rfl, rfl⟩))
                clear HC1 HC2 HC3
                go_loopw [6, 8] (fun v t wk => ∃ j m : Nat, t = .int .u64 m ∧ j + m ≤ a ∧ a ≤ j + m ∧ OwnV (Value.int .i64) 2 wk w.heap.size v (ls ++ List.replicate j V) ∧ Below w.heap.size w wk) (fun _ t _ => (intOf t).toNat)
                case atStart => exact ⟨0, a, rfl, by omega, by omega, by rw [List.replicate_zero, List.append_nil]; exact HOWN.out, hbel⟩
                case round =>
                  obtain ⟨j, m, rfl, hj, hj2, hownj, hbelj⟩ := hrel
                  have hlj : (ls ++ List.replicate j V).length = ls.length + j := by rw [List.length_append, List.length_replicate]
                  have hszj := hbelj.size
                  by_cases hja : 0 < m
                  · have HLJ := Lib.hid hlj
                    have hbd : (ls ++ List.replicate j V).length ≤ 4096 := by omega
                    have HBD := Lib.hid hbd; clear hlj hbd
                    go_wp2_with (at_builtin; refine wpl_appV (f := Value.int .i64) (fun _ => rfl) (.int .i64 0) rfl rfl _ _ 23 rfl w.heap.size 2 8 Try.underlying23 Try.infI64 _ (ls ++ List.replicate j V) rfl (hownj.alloc _) _ _ [V] rfl (RdV.one _ _ _ _ _ (by decide) (by decide)) (by have := HBD.out; unfold maxLen; simp only [List.length_cons, List.length_nil]; omega) (by have := HBD.out; simp only [List.length_cons, List.length_nil]; omega) (by simp; omega) ?_)
                    intro v' w' hown' hb' _
                    go_wp2_with fail
                    go_roundw
                    case rel => exact ⟨j + 1, m - 1, vint (by omega), by omega, by omega, by rw [← rep_snoc, List.append_assoc]; exact hown', (hbelj.alloc hszj _).trans hb'⟩
                    case measure => simp [intOf] <;> omega
                  · have hjj : j = a := by omega
                    have HJJ := Lib.hid hjj; clear hjj
                    have hfin : dec s n p' (ls ++ List.replicate a V) = R := HFIN.out
                    have HF := Lib.hid hfin; clear hfin
                    obtain ⟨A', c', hv', _, _, _⟩ := hownj.read
                    have HV' := Lib.hid hv'; have HLJ := Lib.hid hlj; clear hv' hlj
                    go_wp2_with fail
                    go_roundw
                    case rel => exact ⟨ls ++ List.replicate j V, p', rfl, hpb, hownj, by rw [HLJ.out]; omega, by rw [HJJ.out]; exact HF.out, hbelj⟩
                    case measure => rw [HV'.out]; simp only [lenV]; rw [HLJ.out]; omega
          · have HC1 := fun w => Lib.hid (rget_ok s p w hmx hg); have HC2 := fun w => Lib.hid (rget_is s b w hmx hg2)
            have hd0 : ((a : Int) == 0) = false := by simp; omega
            have hR := HD.out
            rw [dec_e2 hlt hg hk hg2 hc3] at hR
            have HR := Lib.hid hR
            have hd : ((c2 : Int) != 0) = true := by simp; omega
            obtain ⟨hk1, hk2⟩ := hk
            clear hR hcx hg hg2 hc3
            go_wp2_with (first
              | (go_at_call 32; (with_reducible refine (HC1 _).out.mono ?_); rintro e w' ⟨rfl, rfl⟩)
              | (go_at_call 32; (with_reducible refine (HC2 _).out.mono ?_); rintro e w' ⟨rfl, rfl⟩))
            go_ret2
            rw [← HR.out]
            exact RetVE.mk rfl (OwnV.nil _ _ _ _) hbel
        · have HC1 := fun w => Lib.hid (rget_ok s p w hmx hg)
          have hR := HD.out
          rw [dec_k hlt hg (by omega)] at hR
          have HR := Lib.hid hR
          clear hR hcx hg
          by_cases h0 : a = 0
          · subst h0
            go_wp2_with (first
              | (go_at_call 32; (with_reducible refine (HC1 _).out.mono ?_); rintro e w' ⟨rfl, rfl⟩))
            go_ret2
            rw [← HR.out]
            exact RetVE.mk rfl (OwnV.nil _ _ _ _) hbel
          · have hd0 : ((a : Int) == 0) = false := by simp; omega
            have hk2 : n < a + ls.length := by omega
            clear h0 hk
            go_wp2_with (first
              | (go_at_call 32; (with_reducible refine (HC1 _).out.mono ?_); rintro e w' ⟨rfl, rfl⟩))
            go_ret2
            rw [← HR.out]
            exact RetVE.mk rfl (OwnV.nil _ _ _ _) hbel
      · have HC1 := fun w => Lib.hid (rget_is s p w hmx hg)
        have hR := HD.out
        rw [dec_e1 hlt hg hc0] at hR
        have HR := Lib.hid hR
        have hd : ((c1 : Int) != 0) = true := by simp; omega
        clear hR hcx hg hc0
        go_wp2_with (first
          | (go_at_call 32; (with_reducible refine (HC1 _).out.mono ?_); rintro e w' ⟨rfl, rfl⟩))
        go_ret2
        rw [← HR.out]
        exact RetVE.mk rfl (OwnV.nil _ _ _ _) hbel
    · by_cases hps : p < s.size
      · have hR := HD.out
        rw [dec_left hlt (by omega)] at hR
        have HR := Lib.hid hR; clear hR hcx
        go_wp2
        go_ret2
        rw [← HR.out]
        exact RetVE.mk rfl (OwnV.nil _ _ _ _) hbel
      · have hR := HD.out
        rw [dec_done hlt (by omega)] at hR
        have HR := Lib.hid hR; clear hR hcx
        go_wp2
        go_ret2
        rw [← HR.out]
        exact RetVE.mk rfl HOWN.out hbel
end Go.Proofs.Ytcacmabiebmkjaa
