/- The walk over Decode of package rle. -/
import Derived.Test.YtcacmabiebmkjaaRleW5
namespace Go.Proofs.Ytcacmabiebmkjaa
open Go.RowKit Go.VB Go.VarM Go.RL
set_option maxRecDepth 100000 in
set_option maxHeartbeats 4000000 in
theorem decode_any (s : ByteArray) (n : Int) (w : World) (hs : s.size ≤ 140737488351232) :
    Calls Try.prog 18 #[.string s, .int .i64 n] w (RetVE (Value.int .i64) 2 (decR s n).1 (decR s n).2 w) := by
  by_cases hn : n < 0 ∨ 4096 < n
  · rw [decR_out hn]
    rcases hn with hn | hn
    · go_enter Try.func18, Try.ntmps18
      go_wp2
      go_ret2
      exact RetVE.mk rfl (OwnV.nil _ _ _ _) (Below.refl _ _)
    · by_cases h0 : n < 0
      · omega
      · go_enter Try.func18, Try.ntmps18
        go_wp2
        go_ret2
        exact RetVE.mk rfl (OwnV.nil _ _ _ _) (Below.refl _ _)
  obtain ⟨n, rfl⟩ : ∃ k : Nat, n = k := ⟨n.toNat, by omega⟩
  have hn' : n ≤ 4096 := by omega
  clear hn
  rw [decR_in hn']
  have hmx : s.size ≤ maxLen := by unfold maxLen; omega
  have hd0 : decide ((4096 : Int) < (n : Int)) = false := decide_eq_false (by omega)
  have hmk := run_make0 (P := Try.prog) (z := .int .i64 0) rfl Try.underlying23 Try.infI64 n (by omega) (by unfold maxLen; omega) w
  have hrow := OwnV.made0 (Value.int .i64) (.int .i64 0) 2 w w.heap.size n (Nat.le_refl _) (by unfold maxLen; omega)
  have hb0 : Below w.heap.size w (w.alloc (.cells (madeCells #[.int .i64 0] n) 2)) := (Below.refl _ _).alloc (Nat.le_refl _) _
  have hg0 := w.heap.size
  generalize hR : dec s n 0 [] = R
  have HR := Lib.hid hR; clear hR
  have HV : ∀ g : Nat, (Value.slice (some ⟨g, 0, none⟩) 0 n : Value) = Value.slice (some ⟨g, 0, none⟩) 0 n := fun _ => rfl
  generalize hW : (w.alloc (.cells (madeCells #[.int .i64 0] n) 2)) = W1 at hrow hb0
  rw [hW] at hmk
  clear hW
  go_enter Try.func18, Try.ntmps18
  go_wp2_with fail
  clear hmk
  go_loopw [6, 7] (fun v a wr => ∃ (ls : List Int) (p : Nat), a = .int .i64 p ∧ p ≤ s.size ∧ OwnV (Value.int .i64) 2 wr w.heap.size v ls ∧ ls.length ≤ n ∧ dec s n p ls = R ∧ Below w.heap.size w wr) (fun v _ _ => n - lenV v)
  case atStart => exact ⟨[], 0, rfl, Nat.zero_le _, hrow, Nat.zero_le _, HR.out, hb0⟩
  case round =>
    obtain ⟨ls, p, rfl, hp, hown, hln, hdec, hbel⟩ := hrel
    have HD := Lib.hid hdec; clear hdec
    obtain ⟨A, c, rfl, hc1, hc2, hcx⟩ := hown.read
    have HOWN := Lib.hid hown; clear hown
    unfold maxLen at hc2
    by_cases hlt : ls.length < n
    · obtain ⟨a, b, c1, hg⟩ : ∃ a b c, getR s p = (a, b, c) := ⟨_, _, _, rfl⟩
      by_cases hc0 : c1 = 0
      · subst hc0
        by_cases hk : 1 ≤ a ∧ a ≤ n - ls.length
        · obtain ⟨z, b', c2, hg2⟩ : ∃ a' b' c', getR s b = (a', b', c') := ⟨_, _, _, rfl⟩
          by_cases hc3 : c2 = 0
          · subst hc3
            obtain ⟨p', hpe, hpb⟩ : ∃ p' : Nat, b' = p' ∧ p' ≤ s.size := by
              obtain ⟨k, m, _, h2, _, h3, _⟩ := getR_zero hg2
              exact ⟨k + m, by omega, h3⟩
            subst hpe
            have HC := Lib.hid (getrun_ok s p (n - ls.length) wr hmx (by omega) hg hk hg2)
            have hcast : ((n - ls.length : Nat) : Int) = (n : Int) - (ls.length : Int) := by omega
            rw [hcast] at HC
            have HG := Lib.hid hg; have HG2 := Lib.hid hg2
            have HGO := Lib.hid (dec_go (s := s) (l := ls) hlt hg hk hg2)
            have HVV := Lib.hid (dec_v (s := s) (l := ls) hlt hg hk hg2)
            obtain ⟨hk1, hk2⟩ := hk
            clear hg hg2 hcast
            generalize zagN (z : Int) = V at *
            by_cases hne : ls.length = 0
            · have hnil : ls = [] := List.eq_nil_of_length_eq_zero hne
              have HFIN := Lib.hid ((HGO.out (by rw [hnil]; simp)).symm.trans HD.out)
              have hl0 : ls.length ≤ 0 := by omega
              clear HGO HVV HD hcx hne hnil
              clear HG HG2
              go_wp2_with (go_at_call 30; (with_reducible refine HC.out.mono ?_); rintro e w' ⟨rfl, rfl⟩)
              clear HC
              go_loopw [6, 53] (fun v t wk => ∃ j : Nat, t = .int .i64 j ∧ j ≤ a ∧ OwnV (Value.int .i64) 2 wk w.heap.size v (ls ++ List.replicate j V) ∧ Below w.heap.size w wk) (fun _ t _ => a - (intOf t).toNat)
              case atStart => exact ⟨0, rfl, Nat.zero_le _, by rw [List.replicate_zero, List.append_nil]; exact HOWN.out, hbel⟩
              case round =>
                obtain ⟨j, rfl, hj, hownj, hbelj⟩ := hrel
                have hlj : (ls ++ List.replicate j V).length = ls.length + j := by rw [List.length_append, List.length_replicate]
                have hszj := hbelj.size
                by_cases hja : j < a
                · have HLJ := Lib.hid hlj
                  have hbd : (ls ++ List.replicate j V).length ≤ 4096 := by omega
                  have HBD := Lib.hid hbd; clear hlj hbd
                  go_wp2_with (at_builtin; refine wpl_appV (f := Value.int .i64) (fun _ => rfl) (.int .i64 0) rfl rfl _ _ 23 rfl w.heap.size 2 8 Try.underlying23 Try.infI64 _ (ls ++ List.replicate j V) rfl (hownj.alloc _) _ _ [V] rfl (RdV.one _ _ _ _ _ (by decide) (by decide)) (by have := HBD.out; unfold maxLen; simp only [List.length_cons, List.length_nil]; omega) (by have := HBD.out; simp only [List.length_cons, List.length_nil]; omega) (by simp; omega) ?_)
                  intro v' w' hown' hb' _
                  go_wp2_with fail
                  go_roundw
                  case rel => exact ⟨j + 1, by go_num, hja, by rw [← rep_snoc, List.append_assoc]; exact hown', (hbelj.alloc hszj _).trans hb'⟩
                  case measure => simp [intOf] <;> omega
                · have hjj : j = a := by omega
                  have HJJ := Lib.hid hjj; clear hjj
                  have hfin : dec s n p' (ls ++ List.replicate a V) = R := HFIN.out
                  have HF := Lib.hid hfin; clear hfin
                  obtain ⟨A', c', hv', _, _, _⟩ := hownj.read
                  have HV' := Lib.hid hv'; have HLJ := Lib.hid hlj; clear hv' hlj
                  go_wp2_with fail
                  go_roundw
                  case rel => exact ⟨ls ++ List.replicate j V, p', rfl, hpb, hownj, by rw [HLJ.out]; omega, by rw [HJJ.out]; exact HF.out, hbelj⟩
                  case measure => rw [HV'.out]; simp only [lenV]; rw [HLJ.out]; omega
            · obtain ⟨V0, hV0⟩ : ∃ V0, ls[ls.length - 1]? = some V0 := ⟨_, List.getElem?_eq_getElem (by omega)⟩
              obtain ⟨ad, rfl, _, hgx⟩ := hcx _ _ hV0
              rw [← List.getLast?_eq_getElem?] at hV0
              have hl1 : 1 ≤ ls.length := by omega
              clear hne hcx
              by_cases hv : V0 = V
              · subst hv
                have hR := (HVV.out hV0).symm.trans HD.out
                have HR := Lib.hid hR
                have hd : (V0 == V0) = true := beq_self_eq_true _
                clear hV0 HVV HGO HD hR
                go_wp2_with (go_at_call 30; (with_reducible refine HC.out.mono ?_); rintro e w' ⟨rfl, rfl⟩)
                go_ret2
                rw [← HR.out]
                exact RetVE.mk rfl (OwnV.nil _ _ _ _) hbel
              · have HFIN := Lib.hid ((HGO.out (by rw [hV0]; simpa using hv)).symm.trans HD.out)
                have hd : (V0 == V) = false := beq_eq_false_iff_ne.2 hv
                clear HGO HVV HD hV0 hv
                clear HG HG2
                go_wp2_with (go_at_call 30; (with_reducible refine HC.out.mono ?_); rintro e w' ⟨rfl, rfl⟩)
                clear HC
                go_loopw [6, 53] (fun v t wk => ∃ j : Nat, t = .int .i64 j ∧ j ≤ a ∧ OwnV (Value.int .i64) 2 wk w.heap.size v (ls ++ List.replicate j V) ∧ Below w.heap.size w wk) (fun _ t _ => a - (intOf t).toNat)
                case atStart => exact ⟨0, rfl, Nat.zero_le _, by rw [List.replicate_zero, List.append_nil]; exact HOWN.out, hbel⟩
                case round =>
                  obtain ⟨j, rfl, hj, hownj, hbelj⟩ := hrel
                  have hlj : (ls ++ List.replicate j V).length = ls.length + j := by rw [List.length_append, List.length_replicate]
                  have hszj := hbelj.size
                  by_cases hja : j < a
                  · have HLJ := Lib.hid hlj
                    have hbd : (ls ++ List.replicate j V).length ≤ 4096 := by omega
                    have HBD := Lib.hid hbd; clear hlj hbd
                    go_wp2_with (at_builtin; refine wpl_appV (f := Value.int .i64) (fun _ => rfl) (.int .i64 0) rfl rfl _ _ 23 rfl w.heap.size 2 8 Try.underlying23 Try.infI64 _ (ls ++ List.replicate j V) rfl (hownj.alloc _) _ _ [V] rfl (RdV.one _ _ _ _ _ (by decide) (by decide)) (by have := HBD.out; unfold maxLen; simp only [List.length_cons, List.length_nil]; omega) (by have := HBD.out; simp only [List.length_cons, List.length_nil]; omega) (by simp; omega) ?_)
                    intro v' w' hown' hb' _
                    go_wp2_with fail
                    go_roundw
                    case rel => exact ⟨j + 1, by go_num, hja, by rw [← rep_snoc, List.append_assoc]; exact hown', (hbelj.alloc hszj _).trans hb'⟩
                    case measure => simp [intOf] <;> omega
                  · have hjj : j = a := by omega
                    have HJJ := Lib.hid hjj; clear hjj
                    have hfin : dec s n p' (ls ++ List.replicate a V) = R := HFIN.out
                    have HF := Lib.hid hfin; clear hfin
                    obtain ⟨A', c', hv', _, _, _⟩ := hownj.read
                    have HV' := Lib.hid hv'; have HLJ := Lib.hid hlj; clear hv' hlj
                    go_wp2_with fail
                    go_roundw
                    case rel => exact ⟨ls ++ List.replicate j V, p', rfl, hpb, hownj, by rw [HLJ.out]; omega, by rw [HJJ.out]; exact HF.out, hbelj⟩
                    case measure => rw [HV'.out]; simp only [lenV]; rw [HLJ.out]; omega
          · have HC := Lib.hid (getrun_e2 s p (n - ls.length) wr hmx (by omega) hg hk hg2 hc3)
            have hcast : ((n - ls.length : Nat) : Int) = (n : Int) - (ls.length : Int) := by omega
            rw [hcast] at HC
            have hR := HD.out
            rw [dec_e2 hlt hg hk hg2 hc3] at hR
            have HR := Lib.hid hR
            have hd : ((c2 : Int) != 0) = true := by simp; omega
            clear hR hcast hcx hg hg2 hc3
            go_wp2_with (go_at_call 30; (with_reducible refine HC.out.mono ?_); rintro e w' ⟨rfl, rfl⟩)
            go_ret2
            rw [← HR.out]
            exact RetVE.mk rfl (OwnV.nil _ _ _ _) hbel
        · have HC := Lib.hid (getrun_k s p (n - ls.length) wr hmx (by omega) hg (by omega))
          have hcast : ((n - ls.length : Nat) : Int) = (n : Int) - (ls.length : Int) := by omega
          rw [hcast] at HC
          have hR := HD.out
          rw [dec_k hlt hg (by omega)] at hR
          have HR := Lib.hid hR
          clear hR hcast hcx hg hk
          go_wp2_with (go_at_call 30; (with_reducible refine HC.out.mono ?_); rintro e w' ⟨rfl, rfl⟩)
          go_ret2
          rw [← HR.out]
          exact RetVE.mk rfl (OwnV.nil _ _ _ _) hbel
      · have HC := Lib.hid (getrun_e1 s p (n - ls.length) wr hmx hg hc0)
        have hcast : ((n - ls.length : Nat) : Int) = (n : Int) - (ls.length : Int) := by omega
        rw [hcast] at HC
        have hR := HD.out
        rw [dec_e1 hlt hg hc0] at hR
        have HR := Lib.hid hR
        have hd : ((c1 : Int) != 0) = true := by simp; omega
        clear hR hcast hcx hg hc0
        go_wp2_with (go_at_call 30; (with_reducible refine HC.out.mono ?_); rintro e w' ⟨rfl, rfl⟩)
        go_ret2
        rw [← HR.out]
        exact RetVE.mk rfl (OwnV.nil _ _ _ _) hbel
    · by_cases hps : p < s.size
      · have hR := HD.out
        rw [dec_left hlt (by omega)] at hR
        have HR := Lib.hid hR; clear hR hcx
        go_wp2
        go_ret2
        rw [← HR.out]
        exact RetVE.mk rfl (OwnV.nil _ _ _ _) hbel
      · have hR := HD.out
        rw [dec_done hlt (by omega)] at hR
        have HR := Lib.hid hR; clear hR hcx
        go_wp2
        go_ret2
        rw [← HR.out]
        exact RetVE.mk rfl HOWN.out hbel
end Go.Proofs.Ytcacmabiebmkjaa
