/- The walk over the reference's encoding of runs. -/
import Derived.Test.YtcacmabiebmkjaaRleW2
namespace Go.Proofs.Ytcacmabiebmkjaa
open Go.RowKit Go.VB Go.VarM Go.RL
theorem run_add_strs {P : Program} (a b : List UInt8) (h : a.length + b.length ≤ 4611686018427387904) (w : World) : (Op.stringOp .add (str a) (str b)).run P w = .ok (.string (str (a ++ b))) w := by
  rw [run_string_add_sum w (str a) (str b) (by rw [str_size, str_size]; omega), str_append]
set_option maxRecDepth 100000 in
set_option maxHeartbeats 4000000 in
theorem rencode_any (v : Value) (l : List Int) (B : Nat) (w : World) (hr : RdV (Value.int .i64) w B v l) (hB : B ≤ w.heap.size) (hi : I64 l) (hl : l.length ≤ 17592186043904) :
    Calls Try.prog 13 #[v] w (RetB (.string (str (encR l))) w) := by
  obtain ⟨A, c, rfl, hc1, hc2, hr'⟩ := hr
  have hr : RdV (Value.int .i64) w B (.slice A l.length c) l := ⟨A, c, rfl, hc1, hc2, hr'⟩
  clear hr'
  unfold maxLen at hc2
  have HR := Lib.hid hr; clear hr
  have hlen := encR_len hi
  have HI := Lib.hid hi; clear hi
  generalize hT : encR l = T at hlen
  have HT := Lib.hid hT; clear hT
  go_enter Try.func13, Try.ntmps13
  go_wp2
  go_loopw [3, 4] (fun v i wr => ∃ (bs : List UInt8) (j : Nat), v = .string (str bs) ∧ i = .int .i64 j ∧ j ≤ l.length ∧ bs ++ encR (l.drop j) = T ∧ Below w.heap.size w wr) (fun _ i _ => l.length - (intOf i).toNat)
  case atStart => exact ⟨[], 0, rfl, rfl, Nat.zero_le _, by rw [List.drop_zero, List.nil_append]; exact HT.out, Below.refl _ _⟩
  case round =>
    obtain ⟨bs, j, rfl, rfl, hj, hs, hbel⟩ := hrel
    by_cases hlt : j < l.length
    · have hlj : l[j]? = some l[j] := List.getElem?_eq_getElem hlt
      obtain ⟨h2, h3⟩ := fr_at hlj
      rw [encR_at hlj, run1] at hs
      have hx := HI.out.at hlj
      obtain ⟨z, hz1, hz2, hz3⟩ := zig_nat hx
      have HZ := fun w => rzig_any l[j] w hx.1 hx.2
      rw [hz1] at HZ
      rw [hz2] at hs
      have hrd := HR.out.below (hbel.mono hB)
      have hlx := hlj
      clear hlj hz1 hz2 hx
      have hfx : ∃ q, fr l[j] (l.drop j) = q := ⟨_, rfl⟩
      obtain ⟨q, hq⟩ := hfx
      rw [hq] at hs h2 h3
      generalize l[j] = x at *
      have hq64 : q < 18446744073709551616 := by omega
      have hsum := congrArg List.length hs
      simp only [List.length_append] at hsum
      have hP := fun w => rput_any q w hq64
      have hZ := fun w => rput_any z w hz3
      have a1 := fun w => run_add_strs (P := Try.prog) (putL q) (putL z) (by omega) w
      have a2 := fun w => run_add_strs (P := Try.prog) bs (putL q ++ putL z) (by rw [List.length_append]; omega) w
      have hBo := Nat.le_trans hB hbel.size
      have HW1 := Lib.hid (show IntKind.i64.wrap (q : Int) = (q : Int) from IntWalk.i64_in _ ⟨by omega, by omega⟩)
      have HW2 := Lib.hid (show IntKind.u64.wrap (q : Int) = (q : Int) from IntWalk.u64_in _ ⟨by omega, by omega⟩)
      have A1 := fun w => Lib.hid (a1 w); have A2 := fun w => Lib.hid (a2 w)
      have HS := Lib.hid hs; have HZZ := fun w => Lib.hid (HZ w); have HP := fun w => Lib.hid (hP w); have HZ' := fun w => Lib.hid (hZ w); have HQ := Lib.hid hq; have HX := Lib.hid hlx; have HRD := Lib.hid hrd
      clear hs HZ hP hZ hsum hz3 hq64 a1 a2 hq hlx hrd
      go_wp2_with fail
      go_loopw [5] (fun k wk => ∃ m : Nat, k = .int .i64 m ∧ j ≤ m ∧ m ≤ l.length ∧ m + fr x (l.drop m) = j + q ∧ Below wr.heap.size wr wk) (fun k _ => l.length - (intOf k).toNat)
      case atStart => exact ⟨j, rfl, Nat.le_refl _, hj, by rw [HQ.out], Below.refl _ _⟩
      case round =>
        obtain ⟨m, rfl, hm1, hm2, hms, hbelk⟩ := hrel
        have HMS := Lib.hid hms; clear hms
        obtain ⟨_, _, hv1, _, _, hcx⟩ := HRD.out.below (hbelk.mono (Nat.le_trans hB hbel.size))
        cases hv1
        obtain ⟨ad, rfl, hab, hgx⟩ := hcx j _ HX.out
        by_cases hmt : m < l.length
        · have hlm : l[m]? = some l[m] := List.getElem?_eq_getElem hmt
          obtain ⟨_, e1, _, hgm⟩ := hcx m _ hlm
          cases e1
          have hst : l[m] = x → fr x (l.drop m) = fr x (l.drop (m + 1)) + 1 := fun e => fr_step (by rw [hlm, e])
          have hsp : l[m] ≠ x → fr x (l.drop m) = 0 := fun e => fr_stop hlm e
          have HST := Lib.hid hst; have HSP := Lib.hid hsp
          clear hcx hlm hst hsp
          generalize l[m] = y at hgm HST HSP
          by_cases hy : y = x
          · subst hy
            have hd : (y == y) = true := beq_self_eq_true _
            go_wp2_with fail
            go_region
            go_wp2_with fail
            go_roundw
            case rel => exact ⟨m + 1, by go_num, by omega, hmt, by have h := HMS.out; rw [HST.out (by simp)] at h; omega, hbelk.drew⟩
            case measure => simp [intOf] <;> omega
          · have hd : (y == x) = false := beq_eq_false_iff_ne.2 hy
            have he := HSP.out hy
            have hmq : (m : Int) - (j : Int) = (q : Int) := by have h := HMS.out; rw [he] at h; omega
            have HMQ := Lib.hid hmq
            clear hy HST HSP he HMS hmq
            go_wp2_with fail
            go_region
            have hmq := HMQ.out
            replace hbelk := hbelk.drew.drew
            have hw1 := HW1.out; have hw2 := HW2.out
            have a1 := fun w => (A1 w).out; have a2 := fun w => (A2 w).out
            go_wp2_with fail
            go_region_with (first
              | (go_at_call 27; (with_reducible refine (HP _).out.mono ?_); rintro e w3 ⟨rfl, hb⟩; replace hgx := (hb.cell (by rw [block_add]; have := hbelk.size; omega)).trans hgx; replace hbelk := bel_trans hbelk hb; clear hb)
              | (go_at_call 28; (with_reducible refine (HZZ _).out.mono ?_); rintro e w' ⟨rfl, rfl⟩)
              | (go_at_call 27; (with_reducible refine (HZ' _).out.mono ?_); rintro e w5 ⟨rfl, hb⟩; replace hgx := (hb.cell (by rw [block_add]; have := hbelk.size; omega)).trans hgx; replace hbelk := bel_trans hbelk hb; clear hb))
            all_goals
              clear A1 A2 a1 a2 HP HZZ HZ' hw1 hw2 HW1 HW2
              go_wp2_with fail
              go_roundw
              case rel => exact ⟨bs ++ (putL q ++ putL z), m, rfl, rfl, hm2, by rw [show m = j + q by omega, ← HS.out]; simp only [List.append_assoc], bel_trans hbel hbelk⟩
              case measure => simp [intOf] <;> omega
        · have he := fr_end (v := x) (l := l) (j := m) (by omega)
          have hmq : (m : Int) - (j : Int) = (q : Int) := by have h := HMS.out; rw [he] at h; omega
          have HMQ := Lib.hid hmq
          clear he HMS hmq hcx
          go_wp2_with fail
          go_region
          have hmq := HMQ.out
          replace hbelk := hbelk.drew.drew
          have hw1 := HW1.out; have hw2 := HW2.out
          have a1 := fun w => (A1 w).out; have a2 := fun w => (A2 w).out
          go_wp2_with fail
          go_region_with (first
            | (go_at_call 27; (with_reducible refine (HP _).out.mono ?_); rintro e w3 ⟨rfl, hb⟩; replace hgx := (hb.cell (by rw [block_add]; have := hbelk.size; omega)).trans hgx; replace hbelk := bel_trans hbelk hb; clear hb)
            | (go_at_call 28; (with_reducible refine (HZZ _).out.mono ?_); rintro e w' ⟨rfl, rfl⟩)
            | (go_at_call 27; (with_reducible refine (HZ' _).out.mono ?_); rintro e w5 ⟨rfl, hb⟩; replace hgx := (hb.cell (by rw [block_add]; have := hbelk.size; omega)).trans hgx; replace hbelk := bel_trans hbelk hb; clear hb))
          all_goals
            clear A1 A2 a1 a2 HP HZZ HZ' hw1 hw2 HW1 HW2
            go_wp2_with fail
            go_roundw
            case rel => exact ⟨bs ++ (putL q ++ putL z), m, rfl, rfl, hm2, by rw [show m = j + q by omega, ← HS.out]; simp only [List.append_assoc], bel_trans hbel hbelk⟩
            case measure => simp [intOf] <;> omega
    · have HS := Lib.hid hs; clear hs
      go_wp2
      go_ret
      have he : l.drop j = [] := List.drop_eq_nil_of_le (by omega)
      exact RetB.mk (by have h := HS.out; rw [he, encR_nil, List.append_nil] at h; rw [h]; rfl) hbel
end Go.Proofs.Ytcacmabiebmkjaa
