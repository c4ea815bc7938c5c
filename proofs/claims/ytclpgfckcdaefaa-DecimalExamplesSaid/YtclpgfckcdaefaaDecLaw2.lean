/- A statement of layer 5: rescaling to a greater scale and back. -/
import Derived.Test.YtclpgfckcdaefaaDecLaw
namespace Go.DC
open Go.VB Go.DT
theorem ten_le {m d : Nat} {x : Int} (hm : x.natAbs = m) : (x * ((10 ^ d : Nat) : Int)).natAbs = m * 10 ^ d := by rw [Int.natAbs_mul, Int.natAbs_natCast, hm]
theorem resc_up {n : Int} {a d : Nat} (hn : okN n) : resc n a ((a : Int) + (d : Int)) = if n.natAbs * 10 ^ d ≤ 999999999999999999 then some (n * ((10 ^ d : Nat) : Int)) else none := by
  unfold resc
  rw [if_pos (by omega), show ((a : Int) + (d : Int) - (a : Int)).toNat = d from by omega]
  exact up_eq d n (okN_abs.1 hn)
theorem resc_back {n : Int} {a d : Nat} : resc (n * ((10 ^ d : Nat) : Int)) ((a : Int) + (d : Int)) a = some n := by
  unfold resc
  by_cases h : (a : Int) + (d : Int) ≤ (a : Int)
  · obtain rfl : d = 0 := by omega
    rw [if_pos h, show ((a : Int) - ((a : Int) + ((0 : Nat) : Int))).toNat = 0 from by omega]
    simp [up]
  · rw [if_neg h, show ((a : Int) + (d : Int) - (a : Int)).toNat = d from by omega]
    exact down_eq d n
theorem okS_nat {a : Nat} (h : a ≤ 18) : okS (a : Int) := by unfold okS; omega
theorem okS_add {a d : Nat} (h : a + d ≤ 18) : okS ((a : Int) + (d : Int)) := by unfold okS; omega
theorem cat48 (l : List Nat) (j : Nat) : str (by8 (l ++ List.replicate j 48)) ++ ⟨#[48]⟩ = str (by8 (l ++ List.replicate (j + 1) 48)) := by
  rw [show (⟨#[48]⟩ : ByteArray) = str (by8 [48]) from rfl, cat_by8, List.append_assoc, ← List.replicate_succ']
theorem cat48_size (l : List Nat) (j : Nat) : (str (by8 (l ++ List.replicate j 48))).size = l.length + j := by rw [str_size, by8_len, List.length_append, List.length_replicate]
end Go.DC
namespace Go.Proofs.Ytclpgfckcdaefaa
open Go.RowKit Go.VB Go.DT Go.DC Go.ChangeShapes Go.WideShapes Go.ChangeAt
open Go.ChangeMaps (open_string)
set_option linter.constructorNameAsVariable false
theorem pick_nat (v : Int) {n : Int} (h : 0 < n) : ∃ k : Nat, pickN v n = (k : Int) ∧ (k : Int) < n := by
  have hb := pickN_bd v h
  obtain ⟨k, hk⟩ := Int.eq_ofNat_of_zero_le hb.1
  exact ⟨k, hk, by omega⟩
theorem pick_as (v n : Int) (w : World) (hv : (Lit.int .i64 v).wf = true) (h3 : 1 ≤ n) (h4 : n ≤ 4611686018427387904) : ∃ k : Nat, (k : Int) < n ∧ Calls Try.prog 17 #[.int .i64 v, .int .i64 n] w (Ret (.int .i64 (k : Int)) w) := by
  obtain ⟨k, hk, hlt⟩ := pick_nat v (n := n) (by omega)
  have := pick_at v n w hv h3 h4
  rw [hk] at this
  exact ⟨k, hlt, this⟩
theorem rescale_at (n a b x : Int) (c : Nat) (w : World) (h : okN n ∧ okS a ∧ okS b) (hx : oV (resc n a b) = x) (hc : oC (resc n a b) = c) : Calls Try.prog 12 #[.int .i64 n, .int .i64 a, .int .i64 b] w (Ret (.tuple #[.int .i64 x, .int .i64 (c : Int)]) w) := by
  have := rescale_any n a b w
  rw [rsN_in h, rsC_in h, hx, hc] at this
  exact this
theorem format_to (n k : Int) (j : Nat) (w : World) (hn : okN n) (hk : k = (j : Int)) (hj : j ≤ 18) : Calls Try.prog 10 #[.int .i64 n, .int .i64 k] w (RetB (.tuple #[.string (str (by8 (ft n j))), .int .i64 0]) w) := by
  subst hk
  have := format_any n (j : Int) w
  rw [FN_in ⟨hn, okS_nat hj⟩, FC_in ⟨hn, okS_nat hj⟩, Int.toNat_natCast] at this
  exact this

set_option maxRecDepth 100000 in
set_option maxHeartbeats 4000000 in
theorem decimalRescaleBack_lifted (os : Os) (started : os.Started) (H : Type) (enc : TypeId × Value → H) :
    ReturnsInHanded {} Try.checked os 8 .any (Rows.decimalRescaleBackSpec.pre6 enc Try.prog Try.f8 Rows.decimalRescaleBackRow.domain false) (Rows.decimalRescaleBackSpec.post enc Try.prog Try.f8 false true false false) := by
  refine law_lifted (C := Try.checked) (tb := 4) started Try.own Try.laidOut (by kernel_rfl) Try.func8
    (ChangeSpec.witness6 (enc := enc) (C := Try.checked) false ⟨#[], #[.int .i64 0, .int .u8 0, .int .i64 0, .int .i64 0], []⟩ 8 (by kernel_rfl) (by kernel_rfl) (by kernel_rfl) (by kernel_rfl))
    rfl rfl Try.underlying4 (by kernel_rfl) (fun ds h => ?_) (fun W base args ds p hval0 hA0 hsz0 hlt => ?_)
  · have h' : ds.length = Try.f8.params.toList.length := h
    rw [Try.params8] at h'
    match ds, h' with
    | [_, _, _, _], _ => rfl
  · have hval : ∀ (j : Nat) t v, Try.f8.params[j]? = some t → args[j]? = some v → Value.okWide Try.prog W .any base t v := hval0
    have hA : DataW.TrodAll enc Try.prog W 0 (fun _ => true) true Try.f8.params.toList args.toList ds p := hA0
    have hsz : (DataW.weightsEach Try.prog Try.f8.params.toList ds).all (· ≤ reachBytes) = true := hsz0
    rw [Try.params8] at hA hval hsz
    clear hA0 hval0 hsz0
    obtain ⟨v0, vs0, d0, ds0, p0, q0, hargs, rfl, rfl, h0, r0⟩ := trodAll_cons hA
    obtain ⟨v1, vs1, d1, ds1, p1, q1, rfl, rfl, rfl, h1, r1⟩ := trodAll_cons r0
    obtain ⟨v2, vs2, d2, ds2, p2, q2, rfl, rfl, rfl, h2, r2⟩ := trodAll_cons r1
    obtain ⟨v3, vs3, d3, ds3, p3, q3, rfl, rfl, rfl, h3, r3⟩ := trodAll_cons r2
    obtain ⟨rfl, rfl, rfl⟩ := trodAll_nil r3
    obtain rfl : args = #[v0, v1, v2, v3] := by cases args; simp_all
    obtain ⟨n, rfl, rfl, rfl, wn⟩ := open_int Try.underlying2 (hval 0 2 v0 rfl rfl) h0
    obtain ⟨s, rfl, rfl, rfl, ws⟩ := open_int Try.underlying5 (hval 1 5 v1 rfl rfl) h1
    obtain ⟨a, rfl, rfl, rfl, wa⟩ := open_int Try.underlying3 (hval 2 3 v2 rfl rfl) h2
    obtain ⟨m, rfl, rfl, rfl, wm⟩ := open_int Try.underlying3 (hval 3 3 v3 rfl rfl) h3
    change Calls Try.prog 8 #[.int .i64 n, .int .u8 s, .int .i64 a, .int .i64 m] W (RetB (.bool true) W)
    have ha := fun w => Lib.hid (awake5_any w)
    have hnum := Lib.hid (number5_any n s W wn ws)
    obtain ⟨A, hA19, hp1⟩ := pick_as a 19 W wa (by decide) (by decide)
    have hA' : A ≤ 18 := by omega
    obtain ⟨d, hd, hp2⟩ := pick_as m (19 - (A : Int)) W wm (by omega) (by omega)
    have hAd : A + d ≤ 18 := by omega
    have HP1 := Lib.hid hp1; have HP2 := Lib.hid hp2; clear hp1 hp2 hA19 hd
    go_enter Try.func8, Try.ntmps8
    go_wp2_with (go_at_call 18; refine hnum.out.mono ?_; rintro e w' ⟨rfl, N, rfl, hN⟩)
    have hu := resc_up (a := A) (d := d) hN
    by_cases hfit : N.natAbs * 10 ^ d ≤ 999999999999999999
    · rw [if_pos hfit] at hu
      have hX : okN (N * ((10 ^ d : Nat) : Int)) := okN_abs.2 (by rw [ten_le rfl]; exact hfit)
      have hmore := ft_more N A d
      generalize hXX : N * ((10 ^ d : Nat) : Int) = X at *
      have hbk : resc X ((A : Int) + (d : Int)) A = some N := by rw [← hXX]; exact resc_back
      have hR1 := Lib.hid (rescale_at N A ((A : Int) + (d : Int)) X 0 W ⟨hN, okS_nat hA', okS_add hAd⟩ (by rw [hu]; rfl) (by rw [hu]; rfl))
      have hR2 := Lib.hid (rescale_at X ((A : Int) + (d : Int)) A N 0 W ⟨hX, okS_add hAd, okS_nat hA'⟩ (by rw [hbk]; rfl) (by rw [hbk]; rfl))
      have hF1 := fun w => Lib.hid (format_to N A A w hN rfl hA')
      have hF2 := fun w => Lib.hid (format_to X ((A : Int) + (d : Int)) (A + d) w hX (by push_cast; rfl) hAd)
      have hF3 := fun w => Lib.hid (format_to X (d : Int) d w hX rfl (by omega))
      have hL := ft_len (n := N) (k := A) (okN_abs.1 hN) hA'
      have HM := Lib.hid hmore; clear hu hfit hXX hbk hmore hN hX
      go_wp2_with (first
        | (go_at_call 17; (with_reducible refine HP1.out.mono ?_); rintro e w' ⟨rfl, rfl⟩)
        | (go_at_call 17; (with_reducible refine HP2.out.mono ?_); rintro e w' ⟨rfl, rfl⟩)
        | (go_at_call 12; (with_reducible refine hR1.out.mono ?_); rintro e w' ⟨rfl, rfl⟩)
        | (go_at_call 12; (with_reducible refine hR2.out.mono ?_); rintro e w' ⟨rfl, rfl⟩))
      refine (hF1 _).out.mono ?_
      rintro e w1 ⟨rfl, b1⟩
      by_cases h0 : A = 0 ∧ 0 < d
      · obtain ⟨rfl, hd0⟩ := h0
        have hm := HM.out
        rw [if_pos ⟨rfl, hd0⟩, Nat.zero_add] at hm
        have HMM := Lib.hid hm; clear hm
        have hLL : (ft N 0 ++ [46]).length ≤ 22 := by rw [List.length_append]; exact Nat.succ_le_succ hL
        have hz0 : (str (by8 (ft N 0))).size ≤ 21 := by8_size_le hL
        have hc0 := Lib.hid (show str (by8 (ft N 0)) ++ ⟨#[46]⟩ = str (by8 ((ft N 0 ++ [46]) ++ List.replicate 0 48)) by rw [show (⟨#[46]⟩ : ByteArray) = str (by8 [46]) from rfl, cat_by8, List.replicate_zero, List.append_nil])
        generalize hgl : (ft N 0 ++ [46]) = L at *
        have HGL := Lib.hid hgl; clear hgl
        generalize str (by8 (ft N 0)) = T0 at *
        go_wp2
        go_loopw [14, 16] (fun t i wr => ∃ j : Nat, t = .string (str (by8 (L ++ List.replicate j 48))) ∧ i = .int .i64 (j : Int) ∧ j ≤ d ∧ wr = w1) (fun _ i _ => d - (intOf i).toNat)
        case atStart => exact ⟨0, by rw [hc0.out], rfl, Nat.zero_le _, rfl⟩
        case round =>
          obtain ⟨j, rfl, rfl, hj, rfl⟩ := hrel
          have hz := cat48_size L j
          have hc := cat48 L j
          have hz1 : (str (by8 (L ++ List.replicate j 48))).size ≤ 50 := by omega
          clear hz
          have HC := Lib.hid hc; clear hc
          by_cases hlt : j < d
          · generalize hT : str (by8 (L ++ List.replicate j 48)) = T at *
            have HT := Lib.hid hT; clear hT
            go_wp2
            go_roundw
            case rel => exact ⟨j + 1, by rw [HC.out], by go_num, hlt, by first | rfl | trivial⟩
            case measure => simp [intOf] <;> omega
          · have hjd : j = d := by omega
            subst hjd
            have he := Lib.hid (show str (by8 (L ++ List.replicate j 48)) = str (by8 (ft X j)) by rw [HMM.out, ← HGL.out])
            generalize str (by8 (L ++ List.replicate j 48)) = T at *
            generalize str (by8 (ft X j)) = T2 at *
            obtain rfl := he.out
            clear he HC HMM
            go_wp2_with fail
            (with_reducible refine (hF3 _).out.mono ?_)
            rintro e w2 ⟨rfl, b2⟩
            go_wp2_with fail
            refine (ha _).out.mono ?_
            rintro e w3 ⟨rfl, b3⟩
            go_wp2
            go_ret
            exact RetB.mk rfl (bel_trans (bel_trans b1 b2) b3)
      · have hm := HM.out
        rw [if_neg h0, List.append_nil] at hm
        have HMM := Lib.hid hm; clear hm
        have hLL : (ft N A).length ≤ 21 := hL
        have hz0 : (str (by8 (ft N A))).size ≤ 21 := by8_size_le hL
        have hc0 := Lib.hid (show str (by8 (ft N A)) = str (by8 (ft N A ++ List.replicate 0 48)) by rw [List.replicate_zero, List.append_nil])
        have h0' : A = 0 → ¬ 0 < d := fun h h2 => h0 ⟨h, h2⟩
        clear h0
        by_cases hA0 : A = 0
        · subst hA0
          obtain rfl : d = 0 := by have := h0' rfl; omega
          clear h0'
          generalize hgl : ft N 0 = L at *
          clear hgl
          generalize str (by8 L) = T0 at *
          go_wp2
          go_loopw [14, 16] (fun t i wr => t = .string T0 ∧ i = .int .i64 0 ∧ wr = w1) (fun _ _ _ => 0)
          case atStart => exact ⟨rfl, rfl, rfl⟩
          case round =>
            obtain ⟨rfl, rfl, rfl⟩ := hrel
            have he := Lib.hid (show T0 = str (by8 (ft X 0)) by rw [hc0.out, HMM.out])
            generalize str (by8 (ft X 0)) = T2 at *
            obtain rfl := he.out
            clear he HMM hc0
            have hF0 : ∀ w, Calls Try.prog 10 #[.int .i64 X, .int .i64 0] w (RetB (.tuple #[.string T0, .int .i64 0]) w) := fun w => (hF3 w).out
            go_wp2_with fail
            (with_reducible refine (hF0 _).mono ?_)
            rintro e w2 ⟨rfl, b2⟩
            go_wp2_with fail
            refine (ha _).out.mono ?_
            rintro e w3 ⟨rfl, b3⟩
            go_wp2
            go_ret
            exact RetB.mk rfl (bel_trans (bel_trans b1 b2) b3)
        · have hAi : ((A : Int) == 0) = false := beq_eq_false_iff_ne.2 (by omega)
          clear h0' hA0
          generalize hgl : ft N A = L at *
          clear hgl
          generalize hg0 : str (by8 L) = T0 at *
          have HG0 := Lib.hid hg0; clear hg0
          go_wp2
          clear hAi
          go_loopw [14, 16] (fun t i wr => ∃ j : Nat, t = .string (str (by8 (L ++ List.replicate j 48))) ∧ i = .int .i64 ((A : Int) + (j : Int)) ∧ j ≤ d ∧ wr = w1) (fun _ i _ => (A + d) - (intOf i).toNat)
          case atStart => exact ⟨0, by rw [hc0.out], by go_num, Nat.zero_le _, rfl⟩
          case round =>
            obtain ⟨j, rfl, rfl, hj, rfl⟩ := hrel
            have hz := cat48_size L j
            have hc := cat48 L j
            have hz1 : (str (by8 (L ++ List.replicate j 48))).size ≤ 50 := by omega
            clear hz
            have HC := Lib.hid hc; clear hc
            by_cases hlt : j < d
            · generalize hT : str (by8 (L ++ List.replicate j 48)) = T at *
              have HT := Lib.hid hT; clear hT
              go_wp2
              go_roundw
              case rel => exact ⟨j + 1, by rw [HC.out], by go_num, hlt, by first | rfl | trivial⟩
              case measure => simp [intOf] <;> omega
            · have hjd : j = d := by omega
              subst hjd
              have he := Lib.hid (show str (by8 (L ++ List.replicate j 48)) = str (by8 (ft X (A + j))) by rw [HMM.out])
              generalize str (by8 (L ++ List.replicate j 48)) = T at *
              generalize str (by8 (ft X (A + j))) = T2 at *
              obtain rfl := he.out
              clear he HC HMM
              go_wp2_with fail
              (with_reducible refine (hF2 _).out.mono ?_)
              rintro e w2 ⟨rfl, b2⟩
              go_wp2_with fail
              refine (ha _).out.mono ?_
              rintro e w3 ⟨rfl, b3⟩
              go_wp2
              go_ret
              exact RetB.mk rfl (bel_trans (bel_trans b1 b2) b3)
    · rw [if_neg hfit] at hu
      have hR1 := Lib.hid (rescale_at N A ((A : Int) + (d : Int)) 0 8 W ⟨hN, okS_nat hA', okS_add hAd⟩ (by rw [hu]; rfl) (by rw [hu]; rfl))
      clear hu hfit hN
      go_wp2_with (first
        | (go_at_call 17; (with_reducible refine HP1.out.mono ?_); rintro e w' ⟨rfl, rfl⟩)
        | (go_at_call 17; (with_reducible refine HP2.out.mono ?_); rintro e w' ⟨rfl, rfl⟩)
        | (go_at_call 12; (with_reducible refine hR1.out.mono ?_); rintro e w' ⟨rfl, rfl⟩))
      refine (ha _).out.mono ?_
      rintro e w3 ⟨rfl, b3⟩
      go_wp2
      go_ret
      exact RetB.mk rfl b3
theorem decimalRescaleBack_holds : Rows.DecimalRescaleBackSaid :=
  OpenClaim.holds_of_wide 8 Try.f8 rfl rfl rfl rfl rfl rfl rfl ⟨rfl, rfl, rfl, rfl, rfl⟩ rfl rfl rfl rfl rfl (by kernel_rfl) Try.func8 (by kernel_rfl)
    (of_decide_eq_true (by kernel_rfl)) (by unfold Func.isWrapper; first | (rw [if_pos (by decide +kernel)]; kernel_rfl) | (rw [if_neg (by decide +kernel)]; exact ⟨rfl, rfl⟩))
    (fun os started H enc _ => decimalRescaleBack_lifted os started H enc)
end Go.Proofs.Ytclpgfckcdaefaa
