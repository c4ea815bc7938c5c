/- The walk over the reference's reading of a text's parts. -/
import Derived.Test.YtidlemedkjkmdaaDecW5
import Derived.BigQuiet
import Derived.BigRegion
import Derived.Test.YtidlemedkjkmdaaDecW6
namespace Go.DC
open Go.VB Go.DT Go.RowKit
theorem results_tmp4' {fn : Func} {t u v x : Tmp} {P : Program} (h : fn.results = #[.tmp t, .tmp u, .tmp v, .tmp x]) (tmps : Array Value) (w : World) :
    (results fn tmps).run P w = .ok (.tuple #[tmps.getD t undef, tmps.getD u undef, tmps.getD v undef, tmps.getD x undef]) w := by
  simp [results, h]
/-- It returns the parts of the text s, where it has the form; else a false at the end. -/
def RetDF (s : ByteArray) (w : World) : Ending → World → Prop := fun e w' => Below w.heap.size w w' ∧
  ((okF s ∧ e = .returned (.tuple #[.bool (ngb s), .string (ip (body s)), .string (fp (body s)), .bool true])) ∨ (¬ okF s ∧ ∃ (b : Bool) (i f : ByteArray), e = .returned (.tuple #[.bool b, .string i, .string f, .bool false])))
theorem RetDF.fail {s : ByteArray} {w w' : World} {b z : Bool} {i f : ByteArray} {x : Value} (h : ¬ okF s) (hz : z = false) (hx : x = .tuple #[.bool b, .string i, .string f, .bool z]) (hb : Below w.heap.size w w') : RetDF s w (.returned x) w' := ⟨hb, .inr ⟨h, b, i, f, by rw [hx, hz]⟩⟩
theorem RetDF.ok {s : ByteArray} {w w' : World} {b z : Bool} {i f : ByteArray} {x : Value} (h : okF s) (hn : ngb s = b) (hi : ip (body s) = i) (hf : fp (body s) = f) (hz : z = true) (hx : x = .tuple #[.bool b, .string i, .string f, .bool z]) (hb : Below w.heap.size w w') : RetDF s w (.returned x) w' := ⟨hb, .inl ⟨h, by rw [hx, hn, hi, hf, hz]⟩⟩
theorem nokF_B {s t : ByteArray} (hb : body s = t) (h : ¬ okB t) : ¬ okF s := fun hk => h (by rw [← hb]; exact hk.1)
theorem nokF_Z {s t : ByteArray} (hb : body s = t) (hn : ngb s = true) (h : allz (ip t ++ fp t) = true) : ¬ okF s := fun hk => hk.2 (by
  rw [allz_app, Bool.and_eq_true] at h
  rw [hb]; exact ⟨hn, h.1, h.2⟩)
theorem okF_of {s t : ByteArray} {b : Bool} (hb : body s = t) (hn : ngb s = b) (h : okB t) (hz : ¬ (b = true ∧ allz (ip t ++ fp t) = true)) : okF s := by
  refine ⟨by rw [hb]; exact h, fun hk => hz ⟨by rw [← hn]; exact hk.1, ?_⟩⟩
  rw [hb] at hk
  rw [allz_app, hk.2.1, hk.2.2]; rfl
/-- Whether the first j bytes are zeros. -/
def zUp (t : ByteArray) (j : Nat) : Prop := ∀ k, k < j → bN t k = 48
theorem zUp_zero (t : ByteArray) : true = true ↔ zUp t 0 := ⟨fun _ => none_below, fun _ => rfl⟩
theorem zUp_go {t : ByteArray} {j : Nat} (h : true = true ↔ zUp t j) (h1 : bN t j = 48) : true = true ↔ zUp t (j + 1) := ⟨fun _ => snoc (h.1 rfl) h1, fun _ => rfl⟩
theorem zUp_stop {t : ByteArray} {j : Nat} (h1 : ¬ bN t j = 48) : false = true ↔ zUp t (j + 1) := ⟨fun h => (by cases h), fun h => absurd (h j (Nat.lt_succ_self j)) h1⟩
theorem zUp_no {t : ByteArray} {j : Nat} (h : false = true ↔ zUp t j) : false = true ↔ zUp t (j + 1) := ⟨fun h => (by cases h), fun h2 => h.2 fun k hk => h2 k (Nat.lt_succ_of_lt hk)⟩
theorem zUp_all {t : ByteArray} {z : Bool} {j : Nat} (h : z = true ↔ zUp t j) (hj : j = t.size) : allz t = z := by
  subst hj
  rw [Bool.eq_iff_iff, allz_iff]
  exact h.symm
end Go.DC
namespace Go.Proofs.Ytidlemedkjkmdaa
open Go.RowKit Go.VB Go.DT Go.DC
set_option maxRecDepth 100000 in
set_option maxHeartbeats 4000000 in
theorem rform_any (s : ByteArray) (w : World) (zs : s.size ≤ 140737488351232) : Calls Try.prog 53 #[.string s] w (RetDF s w) := by
  have hb := get_bN s
  by_cases hn : 0 < s.size ∧ bN s 0 = 45
  · have hng := ngb_of hn.1 hn.2
    obtain ⟨hn1, hn2⟩ := hn
    have hz1 : 1 ≤ s.size := hn1
    have hbd : body s = s.extract 1 s.size := by unfold body; rw [hng]; rfl
    have HNG := Lib.hid hng; have HBD := Lib.hid hbd; clear hng hbd
    have ht := size_extract s 1 s.size (Nat.le_refl _)
    have zt : (s.extract 1 s.size).size ≤ 140737488351232 := by omega
    have HTS := Lib.hid ht; clear ht
    go_enter Try.func53, Try.ntmps53
    go_wp2_with fail
    go_quiet (fail)
    have hB := below_drewN (Below.refl w.heap.size w) nq
    generalize w.drewN nq = w1 at *
    generalize s.extract 1 s.size = t at *
    clear hb hn1 hn2 hz1
    have hp1 := cd_le t
    have hb := get_bN t
    have hI1 := size_extract t 0 (cd t) hp1
    rw [Nat.sub_zero] at hI1
    have hI0 := fun h => bN_extract t 0 (cd t) 0 h
    rw [Nat.zero_add, Nat.sub_zero] at hI0
    have hfpp : fp t = (if cd t < t.size then t.extract (cd t + 1) t.size else ⟨#[]⟩) := rfl
    have HII := Lib.hid (show ip t = t.extract 0 (cd t) from rfl)
    have HOK := Lib.hid (okB_iff t)
    have HDG := Lib.hid (fun k => cd_dig t (k := k))
    have HST := Lib.hid (cd_stop t)
    generalize cd t = p at *
    go_wp2
    go_loop [6] (fun i => ∃ j : Nat, i = .int .i64 (j : Int) ∧ j ≤ p) (fun i => p - (intOf i).toNat)
    case atStart => exact ⟨0, rfl, Nat.zero_le _⟩
    case round =>
      obtain ⟨j, rfl, hj⟩ := hrel
      by_cases hjp : j < p
      · have hix := bN_lt t j
        have hD := rdigit_any (bN t j) w1 hix
        rw [decide_eq_true (HDG.out j hjp)] at hD
        have HD := Lib.hid hD; clear hD
        generalize hV : bN t j = V at *
        go_wp2_with (go_at_call 68; (with_reducible refine HD.out.mono ?_); rintro e w' ⟨rfl, rfl⟩)
        go_round
        case rel => exact ⟨j + 1, by go_num, hjp⟩
        case measure => simp [intOf] <;> omega
      · obtain rfl : p = j := by omega
        clear hjp
        by_cases hpt : p < t.size
        · rw [if_pos hpt] at hfpp
          have hix := bN_lt t p
          have hD := rdigit_any (bN t p) w1 hix
          rw [decide_eq_false (HST.out hpt)] at hD
          have HD := Lib.hid hD; clear hD
          have hF1 := size_extract t (p + 1) t.size (Nat.le_refl _)
          have HFF := Lib.hid hfpp; clear hfpp
          have hbI := get_bN (t.extract 0 p)
          by_cases hp0 : p = 0
          · have hno := Lib.hid (nokF_B HBD.out fun h => (HOK.out.1 h).1 hp0)
            have e0 : ((p : Int) == 0) = true := by rw [hp0]; rfl
            have e1 : p ≤ 0 := Nat.le_of_eq hp0
            clear hp0
            go_wp2_with (go_at_call 68; (with_reducible refine HD.out.mono ?_); rintro e w' ⟨rfl, rfl⟩)
            refine bodyPost_ret (results_tmp4' Try.results53 _ _) rfl ?_
            exact RetDF.fail hno.out rfl rfl hB
          have e0 : ((p : Int) == 0) = false := beq_eq_false_iff_ne.2 (by omega)
          have e1 : 1 ≤ p := by omega
          have hI00 : bN (t.extract 0 p) 0 = bN t 0 := hI0 (by omega)
          by_cases hld : 1 < p ∧ bN t 0 = 48
          · have hno := Lib.hid (nokF_B HBD.out fun h => (HOK.out.1 h).2.1 hld)
            have e2 : ((bN t 0 : Int) == 48) = true := by rw [hld.2]; rfl
            have e3 : 1 < p := hld.1
            clear hld hp0
            go_wp2_with (go_at_call 68; (with_reducible refine HD.out.mono ?_); rintro e w' ⟨rfl, rfl⟩)
            refine bodyPost_ret (results_tmp4' Try.results53 _ _) rfl ?_
            exact RetDF.fail hno.out rfl rfl hB
          have HLD := Lib.hid (show p ≠ 0 ∧ ¬ (1 < p ∧ bN t 0 = 48) from ⟨hp0, hld⟩)
          by_cases h1p : 1 < p
          · have e2 : ((bN t 0 : Int) == 48) = false := beq_eq_false_iff_ne.2 (fun h => hld ⟨h1p, by omega⟩)
            have e3 : decide ((1 : Int) < (p : Int)) = true := decide_eq_true (by omega)
            have e4 : decide (1 < p) = true := decide_eq_true h1p
            clear hld hp0
            generalize bN t 0 = d at *
            by_cases h46 : bN t p = 46
            · have hd : ((bN t p : Int) != 46) = false := by rw [h46]; rfl
              have HC46 := Lib.hid h46
              clear h46
              by_cases hF0 : t.size - (p + 1) = 0
              · have hno := Lib.hid (nokF_B HBD.out fun h => ((HOK.out.1 h).2.2 hpt).2.1 (by rw [HFF.out, hF1]; exact hF0))
                have hF0' : t.size ≤ p + 1 := by omega
                clear hF0
                generalize hV : bN t p = V at *
                go_wp2_with (go_at_call 68; (with_reducible refine HD.out.mono ?_); rintro e w' ⟨rfl, rfl⟩)
                refine bodyPost_ret (results_tmp4' Try.results53 _ _) rfl ?_
                exact RetDF.fail hno.out rfl rfl hB
              have HF0 := Lib.hid (show (fp t).size ≠ 0 by rw [HFF.out, hF1]; exact hF0)
              have hF0' : p + 1 < t.size := by omega
              have hz0 : (((t.size - (p + 1) : Nat) : Int) == 0) = false := beq_eq_false_iff_ne.2 (by omega)
              clear hF0
              have hbG := get_bN (t.extract (p + 1) t.size)
              have hcl := cd_le (t.extract (p + 1) t.size)
              have HDG2 := Lib.hid (fun k => cd_dig (t.extract (p + 1) t.size) (k := k))
              have HST2 := Lib.hid (cd_stop (t.extract (p + 1) t.size))
              have HC2 := Lib.hid (show fp t = t.extract (p + 1) t.size → cd (fp t) = cd (t.extract (p + 1) t.size) from fun h => by rw [h])
              generalize cd (t.extract (p + 1) t.size) = q at *
              generalize hV : bN t p = V at *
              go_wp2_with (go_at_call 68; (with_reducible refine HD.out.mono ?_); rintro e w' ⟨rfl, rfl⟩)
              go_loop [2, 3, 4, 5, 7] (fun x2 x3 x4 x5 i => x2 = .bool true ∧ x3 = .string (t.extract 0 p) ∧ x4 = .string (t.extract (p + 1) t.size) ∧ x5 = .bool false ∧ ∃ j : Nat, i = .int .i64 (j : Int) ∧ j ≤ q) (fun _ _ _ _ i => q - (intOf i).toNat)
              case atStart => exact ⟨rfl, rfl, rfl, rfl, 0, rfl, Nat.zero_le _⟩
              case round =>
                clear hV HD hix
                generalize t.extract (p + 1) t.size = G at *
                generalize t.extract 0 p = I at *
                obtain ⟨rfl, rfl, rfl, rfl, k, rfl, hk⟩ := hrel
                by_cases hkq : k < q
                · have hix := bN_lt G k
                  have hD := rdigit_any (bN G k) w1 hix
                  rw [decide_eq_true (HDG2.out k hkq)] at hD
                  have HD := Lib.hid hD; clear hD
                  generalize hV2 : bN G k = V2 at *
                  go_wp2_with (go_at_call 68; (with_reducible refine HD.out.mono ?_); rintro e w' ⟨rfl, rfl⟩)
                  go_round
                  case rel => exact ⟨rfl, rfl, rfl, rfl, k + 1, by go_num, hkq⟩
                  case measure => simp [intOf] <;> omega
                · obtain rfl : q = k := by omega
                  clear hkq
                  by_cases hkG : q < G.size
                  · have hno := Lib.hid (nokF_B HBD.out fun h => by have h1 := ((HOK.out.1 h).2.2 hpt).2.2; rw [HC2.out HFF.out, HFF.out] at h1; omega)
                    have hix := bN_lt G q
                    have hD := rdigit_any (bN G q) w1 hix
                    rw [decide_eq_false (HST2.out hkG)] at hD
                    have HD := Lib.hid hD; clear hD
                    generalize hV2 : bN G q = V2 at *
                    go_wp2_with (go_at_call 68; (with_reducible refine HD.out.mono ?_); rintro e w' ⟨rfl, rfl⟩)
                    refine bodyPost_ret (results_tmp4' Try.results53 _ _) rfl ?_
                    exact RetDF.fail hno.out rfl rfl hB
                  · have hok := Lib.hid (HOK.out.2 ⟨HLD.out.1, HLD.out.2, fun _ => ⟨HC46.out, HF0.out, by rw [HC2.out HFF.out, HFF.out]; omega⟩⟩)
                    have hA : ip t ++ fp t = (I ++ G) := by rw [HII.out, HFF.out]
                    have hnok : true = true → allz (I ++ G) = true → ¬ okF s := fun hb h => nokF_Z HBD.out (HNG.out.trans hb) (by rw [hA]; exact h)
                    have hyes : ¬ (true = true ∧ allz (I ++ G) = true) → okF s := fun hz => okF_of HBD.out HNG.out hok.out (by rw [hA]; exact hz)
                    have HNO := Lib.hid hnok; have HYES := Lib.hid hyes; clear hnok hyes hA
                    have HSA := Lib.hid (show ((I ++ G)).size = (I.size + G.size) from ByteArray.size_append)
                    have hbA := get_bN (I ++ G)
                    go_wp2
                    go_loop [8, 9] (fun z k => ∃ (Z : Bool) (j : Nat), z = .bool Z ∧ k = .int .i64 (j : Int) ∧ j ≤ (I.size + G.size) ∧ (Z = true ↔ zUp (I ++ G) j)) (fun _ k => (I.size + G.size) - (intOf k).toNat)
                    case atStart => exact ⟨true, 0, rfl, rfl, Nat.zero_le _, zUp_zero _⟩
                    case round =>
                      obtain ⟨Z, j, rfl, rfl, hj, hz⟩ := hrel
                      have HZ := Lib.hid hz; clear hz
                      by_cases hlt : j < (I.size + G.size)
                      · have hix := bN_lt (I ++ G) j
                        cases Z
                        · have hN := Lib.hid (zUp_no HZ.out)
                          go_wp2
                          go_round
                          case rel => exact ⟨false, j + 1, rfl, by go_num, hlt, hN.out⟩
                          case measure => simp [intOf] <;> omega
                        · by_cases h48 : bN (I ++ G) j = 48
                          · have hd : ((bN (I ++ G) j : Int) == 48) = true := by rw [h48]; rfl
                            have hN := Lib.hid (zUp_go HZ.out h48)
                            clear h48
                            generalize hV3 : bN (I ++ G) j = V3 at *
                            go_wp2
                            go_round
                            case rel => exact ⟨true, j + 1, by go_num, by go_num, hlt, hN.out⟩
                            case measure => simp [intOf] <;> omega
                          · have hd : ((bN (I ++ G) j : Int) == 48) = false := beq_eq_false_iff_ne.2 (by omega)
                            have hN := Lib.hid (@zUp_stop (I ++ G) j h48)
                            clear h48
                            generalize hV3 : bN (I ++ G) j = V3 at *
                            go_wp2
                            go_round
                            case rel => exact ⟨false, j + 1, by go_num, by go_num, hlt, hN.out⟩
                            case measure => simp [intOf] <;> omega
                      · have ha := zUp_all HZ.out (by rw [HSA.out]; omega)
                        have HAZ := Lib.hid ha; clear ha
                        cases Z
                        · have hyy := Lib.hid (HYES.out (fun h => by rw [HAZ.out] at h; cases h.2))
                          go_wp2
                          refine bodyPost_ret (results_tmp4' Try.results53 _ _) rfl ?_
                          exact RetDF.ok hyy.out HNG.out (by rw [HBD.out]; exact HII.out) (by rw [HBD.out]; exact HFF.out) rfl rfl hB
                        · have hno := Lib.hid (HNO.out (by first | rfl | trivial) HAZ.out)
                          go_wp2
                          refine bodyPost_ret (results_tmp4' Try.results53 _ _) rfl ?_
                          exact RetDF.fail hno.out rfl rfl hB
            · have hd : ((bN t p : Int) != 46) = true := bne_iff_ne.2 (by omega)
              have hno := Lib.hid (nokF_B HBD.out fun h => h46 (((HOK.out.1 h).2.2 hpt).1))
              clear h46
              generalize hV : bN t p = V at *
              go_wp2_with (go_at_call 68; (with_reducible refine HD.out.mono ?_); rintro e w' ⟨rfl, rfl⟩)
              refine bodyPost_ret (results_tmp4' Try.results53 _ _) rfl ?_
              exact RetDF.fail hno.out rfl rfl hB
          · clear hld hp0
            by_cases h46 : bN t p = 46
            · have hd : ((bN t p : Int) != 46) = false := by rw [h46]; rfl
              have HC46 := Lib.hid h46
              clear h46
              by_cases hF0 : t.size - (p + 1) = 0
              · have hno := Lib.hid (nokF_B HBD.out fun h => ((HOK.out.1 h).2.2 hpt).2.1 (by rw [HFF.out, hF1]; exact hF0))
                have hF0' : t.size ≤ p + 1 := by omega
                clear hF0
                generalize hV : bN t p = V at *
                go_wp2_with (go_at_call 68; (with_reducible refine HD.out.mono ?_); rintro e w' ⟨rfl, rfl⟩)
                refine bodyPost_ret (results_tmp4' Try.results53 _ _) rfl ?_
                exact RetDF.fail hno.out rfl rfl hB
              have HF0 := Lib.hid (show (fp t).size ≠ 0 by rw [HFF.out, hF1]; exact hF0)
              have hF0' : p + 1 < t.size := by omega
              have hz0 : (((t.size - (p + 1) : Nat) : Int) == 0) = false := beq_eq_false_iff_ne.2 (by omega)
              clear hF0
              have hbG := get_bN (t.extract (p + 1) t.size)
              have hcl := cd_le (t.extract (p + 1) t.size)
              have HDG2 := Lib.hid (fun k => cd_dig (t.extract (p + 1) t.size) (k := k))
              have HST2 := Lib.hid (cd_stop (t.extract (p + 1) t.size))
              have HC2 := Lib.hid (show fp t = t.extract (p + 1) t.size → cd (fp t) = cd (t.extract (p + 1) t.size) from fun h => by rw [h])
              generalize cd (t.extract (p + 1) t.size) = q at *
              generalize hV : bN t p = V at *
              go_wp2_with (go_at_call 68; (with_reducible refine HD.out.mono ?_); rintro e w' ⟨rfl, rfl⟩)
              go_loop [2, 3, 4, 5, 7] (fun x2 x3 x4 x5 i => x2 = .bool true ∧ x3 = .string (t.extract 0 p) ∧ x4 = .string (t.extract (p + 1) t.size) ∧ x5 = .bool false ∧ ∃ j : Nat, i = .int .i64 (j : Int) ∧ j ≤ q) (fun _ _ _ _ i => q - (intOf i).toNat)
              case atStart => exact ⟨rfl, rfl, rfl, rfl, 0, rfl, Nat.zero_le _⟩
              case round =>
                clear hV HD hix
                generalize t.extract (p + 1) t.size = G at *
                generalize t.extract 0 p = I at *
                obtain ⟨rfl, rfl, rfl, rfl, k, rfl, hk⟩ := hrel
                by_cases hkq : k < q
                · have hix := bN_lt G k
                  have hD := rdigit_any (bN G k) w1 hix
                  rw [decide_eq_true (HDG2.out k hkq)] at hD
                  have HD := Lib.hid hD; clear hD
                  generalize hV2 : bN G k = V2 at *
                  go_wp2_with (go_at_call 68; (with_reducible refine HD.out.mono ?_); rintro e w' ⟨rfl, rfl⟩)
                  go_round
                  case rel => exact ⟨rfl, rfl, rfl, rfl, k + 1, by go_num, hkq⟩
                  case measure => simp [intOf] <;> omega
                · obtain rfl : q = k := by omega
                  clear hkq
                  by_cases hkG : q < G.size
                  · have hno := Lib.hid (nokF_B HBD.out fun h => by have h1 := ((HOK.out.1 h).2.2 hpt).2.2; rw [HC2.out HFF.out, HFF.out] at h1; omega)
                    have hix := bN_lt G q
                    have hD := rdigit_any (bN G q) w1 hix
                    rw [decide_eq_false (HST2.out hkG)] at hD
                    have HD := Lib.hid hD; clear hD
                    generalize hV2 : bN G q = V2 at *
                    go_wp2_with (go_at_call 68; (with_reducible refine HD.out.mono ?_); rintro e w' ⟨rfl, rfl⟩)
                    refine bodyPost_ret (results_tmp4' Try.results53 _ _) rfl ?_
                    exact RetDF.fail hno.out rfl rfl hB
                  · have hok := Lib.hid (HOK.out.2 ⟨HLD.out.1, HLD.out.2, fun _ => ⟨HC46.out, HF0.out, by rw [HC2.out HFF.out, HFF.out]; omega⟩⟩)
                    have hA : ip t ++ fp t = (I ++ G) := by rw [HII.out, HFF.out]
                    have hnok : true = true → allz (I ++ G) = true → ¬ okF s := fun hb h => nokF_Z HBD.out (HNG.out.trans hb) (by rw [hA]; exact h)
                    have hyes : ¬ (true = true ∧ allz (I ++ G) = true) → okF s := fun hz => okF_of HBD.out HNG.out hok.out (by rw [hA]; exact hz)
                    have HNO := Lib.hid hnok; have HYES := Lib.hid hyes; clear hnok hyes hA
                    have HSA := Lib.hid (show ((I ++ G)).size = (I.size + G.size) from ByteArray.size_append)
                    have hbA := get_bN (I ++ G)
                    go_wp2
                    go_loop [8, 9] (fun z k => ∃ (Z : Bool) (j : Nat), z = .bool Z ∧ k = .int .i64 (j : Int) ∧ j ≤ (I.size + G.size) ∧ (Z = true ↔ zUp (I ++ G) j)) (fun _ k => (I.size + G.size) - (intOf k).toNat)
                    case atStart => exact ⟨true, 0, rfl, rfl, Nat.zero_le _, zUp_zero _⟩
                    case round =>
                      obtain ⟨Z, j, rfl, rfl, hj, hz⟩ := hrel
                      have HZ := Lib.hid hz; clear hz
                      by_cases hlt : j < (I.size + G.size)
                      · have hix := bN_lt (I ++ G) j
                        cases Z
                        · have hN := Lib.hid (zUp_no HZ.out)
                          go_wp2
                          go_round
                          case rel => exact ⟨false, j + 1, rfl, by go_num, hlt, hN.out⟩
                          case measure => simp [intOf] <;> omega
                        · by_cases h48 : bN (I ++ G) j = 48
                          · have hd : ((bN (I ++ G) j : Int) == 48) = true := by rw [h48]; rfl
                            have hN := Lib.hid (zUp_go HZ.out h48)
                            clear h48
                            generalize hV3 : bN (I ++ G) j = V3 at *
                            go_wp2
                            go_round
                            case rel => exact ⟨true, j + 1, by go_num, by go_num, hlt, hN.out⟩
                            case measure => simp [intOf] <;> omega
                          · have hd : ((bN (I ++ G) j : Int) == 48) = false := beq_eq_false_iff_ne.2 (by omega)
                            have hN := Lib.hid (@zUp_stop (I ++ G) j h48)
                            clear h48
                            generalize hV3 : bN (I ++ G) j = V3 at *
                            go_wp2
                            go_round
                            case rel => exact ⟨false, j + 1, by go_num, by go_num, hlt, hN.out⟩
                            case measure => simp [intOf] <;> omega
                      · have ha := zUp_all HZ.out (by rw [HSA.out]; omega)
                        have HAZ := Lib.hid ha; clear ha
                        cases Z
                        · have hyy := Lib.hid (HYES.out (fun h => by rw [HAZ.out] at h; cases h.2))
                          go_wp2
                          refine bodyPost_ret (results_tmp4' Try.results53 _ _) rfl ?_
                          exact RetDF.ok hyy.out HNG.out (by rw [HBD.out]; exact HII.out) (by rw [HBD.out]; exact HFF.out) rfl rfl hB
                        · have hno := Lib.hid (HNO.out (by first | rfl | trivial) HAZ.out)
                          go_wp2
                          refine bodyPost_ret (results_tmp4' Try.results53 _ _) rfl ?_
                          exact RetDF.fail hno.out rfl rfl hB
            · have hd : ((bN t p : Int) != 46) = true := bne_iff_ne.2 (by omega)
              have hno := Lib.hid (nokF_B HBD.out fun h => h46 (((HOK.out.1 h).2.2 hpt).1))
              clear h46
              generalize hV : bN t p = V at *
              go_wp2_with (go_at_call 68; (with_reducible refine HD.out.mono ?_); rintro e w' ⟨rfl, rfl⟩)
              refine bodyPost_ret (results_tmp4' Try.results53 _ _) rfl ?_
              exact RetDF.fail hno.out rfl rfl hB
        · rw [if_neg hpt] at hfpp
          have HFF := Lib.hid hfpp; clear hfpp
          have hbI := get_bN (t.extract 0 p)
          by_cases hp0 : p = 0
          · have hno := Lib.hid (nokF_B HBD.out fun h => (HOK.out.1 h).1 hp0)
            have e0 : ((p : Int) == 0) = true := by rw [hp0]; rfl
            have e1 : p ≤ 0 := Nat.le_of_eq hp0
            clear hp0
            go_wp2
            refine bodyPost_ret (results_tmp4' Try.results53 _ _) rfl ?_
            exact RetDF.fail hno.out rfl rfl hB
          have e0 : ((p : Int) == 0) = false := beq_eq_false_iff_ne.2 (by omega)
          have e1 : 1 ≤ p := by omega
          have hI00 : bN (t.extract 0 p) 0 = bN t 0 := hI0 (by omega)
          by_cases hld : 1 < p ∧ bN t 0 = 48
          · have hno := Lib.hid (nokF_B HBD.out fun h => (HOK.out.1 h).2.1 hld)
            have e2 : ((bN t 0 : Int) == 48) = true := by rw [hld.2]; rfl
            have e3 : 1 < p := hld.1
            clear hld hp0
            go_wp2
            refine bodyPost_ret (results_tmp4' Try.results53 _ _) rfl ?_
            exact RetDF.fail hno.out rfl rfl hB
          have HLD := Lib.hid (show p ≠ 0 ∧ ¬ (1 < p ∧ bN t 0 = 48) from ⟨hp0, hld⟩)
          by_cases h1p : 1 < p
          · have e2 : ((bN t 0 : Int) == 48) = false := beq_eq_false_iff_ne.2 (fun h => hld ⟨h1p, by omega⟩)
            have e3 : decide ((1 : Int) < (p : Int)) = true := decide_eq_true (by omega)
            have e4 : decide (1 < p) = true := decide_eq_true h1p
            clear hld hp0
            generalize bN t 0 = d at *
            have hok := Lib.hid (HOK.out.2 ⟨HLD.out.1, HLD.out.2, fun h => absurd h hpt⟩)
            have hA : ip t ++ fp t = (t.extract 0 p) := by rw [HII.out, HFF.out]; exact ByteArray.append_empty
            have hnok : true = true → allz (t.extract 0 p) = true → ¬ okF s := fun hb h => nokF_Z HBD.out (HNG.out.trans hb) (by rw [hA]; exact h)
            have hyes : ¬ (true = true ∧ allz (t.extract 0 p) = true) → okF s := fun hz => okF_of HBD.out HNG.out hok.out (by rw [hA]; exact hz)
            have HNO := Lib.hid hnok; have HYES := Lib.hid hyes; clear hnok hyes hA
            have HSA := Lib.hid (show ((t.extract 0 p)).size = p from hI1)
            have hbA := get_bN (t.extract 0 p)
            go_wp2
            go_loop [8, 9] (fun z k => ∃ (Z : Bool) (j : Nat), z = .bool Z ∧ k = .int .i64 (j : Int) ∧ j ≤ p ∧ (Z = true ↔ zUp (t.extract 0 p) j)) (fun _ k => p - (intOf k).toNat)
            case atStart => exact ⟨true, 0, rfl, rfl, Nat.zero_le _, zUp_zero _⟩
            case round =>
              obtain ⟨Z, j, rfl, rfl, hj, hz⟩ := hrel
              have HZ := Lib.hid hz; clear hz
              by_cases hlt : j < p
              · have hix := bN_lt (t.extract 0 p) j
                cases Z
                · have hN := Lib.hid (zUp_no HZ.out)
                  go_wp2
                  go_round
                  case rel => exact ⟨false, j + 1, rfl, by go_num, hlt, hN.out⟩
                  case measure => simp [intOf] <;> omega
                · by_cases h48 : bN (t.extract 0 p) j = 48
                  · have hd : ((bN (t.extract 0 p) j : Int) == 48) = true := by rw [h48]; rfl
                    have hN := Lib.hid (zUp_go HZ.out h48)
                    clear h48
                    generalize hV3 : bN (t.extract 0 p) j = V3 at *
                    go_wp2
                    go_round
                    case rel => exact ⟨true, j + 1, by go_num, by go_num, hlt, hN.out⟩
                    case measure => simp [intOf] <;> omega
                  · have hd : ((bN (t.extract 0 p) j : Int) == 48) = false := beq_eq_false_iff_ne.2 (by omega)
                    have hN := Lib.hid (@zUp_stop (t.extract 0 p) j h48)
                    clear h48
                    generalize hV3 : bN (t.extract 0 p) j = V3 at *
                    go_wp2
                    go_round
                    case rel => exact ⟨false, j + 1, by go_num, by go_num, hlt, hN.out⟩
                    case measure => simp [intOf] <;> omega
              · have ha := zUp_all HZ.out (by rw [HSA.out]; omega)
                have HAZ := Lib.hid ha; clear ha
                cases Z
                · have hyy := Lib.hid (HYES.out (fun h => by rw [HAZ.out] at h; cases h.2))
                  go_wp2
                  refine bodyPost_ret (results_tmp4' Try.results53 _ _) rfl ?_
                  exact RetDF.ok hyy.out HNG.out (by rw [HBD.out]; exact HII.out) (by rw [HBD.out]; exact HFF.out) rfl rfl hB
                · have hno := Lib.hid (HNO.out (by first | rfl | trivial) HAZ.out)
                  go_wp2
                  refine bodyPost_ret (results_tmp4' Try.results53 _ _) rfl ?_
                  exact RetDF.fail hno.out rfl rfl hB
          · clear hld hp0
            have hok := Lib.hid (HOK.out.2 ⟨HLD.out.1, HLD.out.2, fun h => absurd h hpt⟩)
            have hA : ip t ++ fp t = (t.extract 0 p) := by rw [HII.out, HFF.out]; exact ByteArray.append_empty
            have hnok : true = true → allz (t.extract 0 p) = true → ¬ okF s := fun hb h => nokF_Z HBD.out (HNG.out.trans hb) (by rw [hA]; exact h)
            have hyes : ¬ (true = true ∧ allz (t.extract 0 p) = true) → okF s := fun hz => okF_of HBD.out HNG.out hok.out (by rw [hA]; exact hz)
            have HNO := Lib.hid hnok; have HYES := Lib.hid hyes; clear hnok hyes hA
            have HSA := Lib.hid (show ((t.extract 0 p)).size = p from hI1)
            have hbA := get_bN (t.extract 0 p)
            go_wp2
            go_loop [8, 9] (fun z k => ∃ (Z : Bool) (j : Nat), z = .bool Z ∧ k = .int .i64 (j : Int) ∧ j ≤ p ∧ (Z = true ↔ zUp (t.extract 0 p) j)) (fun _ k => p - (intOf k).toNat)
            case atStart => exact ⟨true, 0, rfl, rfl, Nat.zero_le _, zUp_zero _⟩
            case round =>
              obtain ⟨Z, j, rfl, rfl, hj, hz⟩ := hrel
              have HZ := Lib.hid hz; clear hz
              by_cases hlt : j < p
              · have hix := bN_lt (t.extract 0 p) j
                cases Z
                · have hN := Lib.hid (zUp_no HZ.out)
                  go_wp2
                  go_round
                  case rel => exact ⟨false, j + 1, rfl, by go_num, hlt, hN.out⟩
                  case measure => simp [intOf] <;> omega
                · by_cases h48 : bN (t.extract 0 p) j = 48
                  · have hd : ((bN (t.extract 0 p) j : Int) == 48) = true := by rw [h48]; rfl
                    have hN := Lib.hid (zUp_go HZ.out h48)
                    clear h48
                    generalize hV3 : bN (t.extract 0 p) j = V3 at *
                    go_wp2
                    go_round
                    case rel => exact ⟨true, j + 1, by go_num, by go_num, hlt, hN.out⟩
                    case measure => simp [intOf] <;> omega
                  · have hd : ((bN (t.extract 0 p) j : Int) == 48) = false := beq_eq_false_iff_ne.2 (by omega)
                    have hN := Lib.hid (@zUp_stop (t.extract 0 p) j h48)
                    clear h48
                    generalize hV3 : bN (t.extract 0 p) j = V3 at *
                    go_wp2
                    go_round
                    case rel => exact ⟨false, j + 1, by go_num, by go_num, hlt, hN.out⟩
                    case measure => simp [intOf] <;> omega
              · have ha := zUp_all HZ.out (by rw [HSA.out]; omega)
                have HAZ := Lib.hid ha; clear ha
                cases Z
                · have hyy := Lib.hid (HYES.out (fun h => by rw [HAZ.out] at h; cases h.2))
                  go_wp2
                  refine bodyPost_ret (results_tmp4' Try.results53 _ _) rfl ?_
                  exact RetDF.ok hyy.out HNG.out (by rw [HBD.out]; exact HII.out) (by rw [HBD.out]; exact HFF.out) rfl rfl hB
                · have hno := Lib.hid (HNO.out (by first | rfl | trivial) HAZ.out)
                  go_wp2
                  refine bodyPost_ret (results_tmp4' Try.results53 _ _) rfl ?_
                  exact RetDF.fail hno.out rfl rfl hB
  · have hng := ngb_not hn
    have hbd : body s = s := by unfold body; rw [hng]; rfl
    have HNG := Lib.hid hng; have HBD := Lib.hid hbd; clear hng hbd
    have HSS := Lib.hid hn; clear hn
    by_cases h0 : 0 < s.size
    · have hd0 : ((bN s 0 : Int) == 45) = false := beq_eq_false_iff_ne.2 (fun h => HSS.out ⟨h0, by omega⟩)
      have hdl : decide (0 < s.size) = true := decide_eq_true h0
      go_enter Try.func53, Try.ntmps53
      have hB := Below.refl w.heap.size w
      have zt := zs
      have HSZ := Lib.hid h0
      have hp1 := cd_le s
      have hb := get_bN s
      have hI1 := size_extract s 0 (cd s) hp1
      rw [Nat.sub_zero] at hI1
      have hI0 := fun h => bN_extract s 0 (cd s) 0 h
      rw [Nat.zero_add, Nat.sub_zero] at hI0
      have hfpp : fp s = (if cd s < s.size then s.extract (cd s + 1) s.size else ⟨#[]⟩) := rfl
      have HII := Lib.hid (show ip s = s.extract 0 (cd s) from rfl)
      have HOK := Lib.hid (okB_iff s)
      have HDG := Lib.hid (fun k => cd_dig s (k := k))
      have HST := Lib.hid (cd_stop s)
      generalize cd s = p at *
      go_wp2
      go_loop [6] (fun i => ∃ j : Nat, i = .int .i64 (j : Int) ∧ j ≤ p) (fun i => p - (intOf i).toNat)
      case atStart => exact ⟨0, rfl, Nat.zero_le _⟩
      case round =>
        obtain ⟨j, rfl, hj⟩ := hrel
        by_cases hjp : j < p
        · have hix := bN_lt s j
          have hD := rdigit_any (bN s j) w hix
          rw [decide_eq_true (HDG.out j hjp)] at hD
          have HD := Lib.hid hD; clear hD
          generalize hV : bN s j = V at *
          go_wp2_with (go_at_call 68; (with_reducible refine HD.out.mono ?_); rintro e w' ⟨rfl, rfl⟩)
          go_round
          case rel => exact ⟨j + 1, by go_num, hjp⟩
          case measure => simp [intOf] <;> omega
        · obtain rfl : p = j := by omega
          clear hjp
          by_cases hpt : p < s.size
          · rw [if_pos hpt] at hfpp
            have hix := bN_lt s p
            have hD := rdigit_any (bN s p) w hix
            rw [decide_eq_false (HST.out hpt)] at hD
            have HD := Lib.hid hD; clear hD
            have hF1 := size_extract s (p + 1) s.size (Nat.le_refl _)
            have HFF := Lib.hid hfpp; clear hfpp
            have hbI := get_bN (s.extract 0 p)
            by_cases hp0 : p = 0
            · have hno := Lib.hid (nokF_B HBD.out fun h => (HOK.out.1 h).1 hp0)
              have e0 : ((p : Int) == 0) = true := by rw [hp0]; rfl
              have e1 : p ≤ 0 := Nat.le_of_eq hp0
              clear hp0
              go_wp2_with (go_at_call 68; (with_reducible refine HD.out.mono ?_); rintro e w' ⟨rfl, rfl⟩)
              refine bodyPost_ret (results_tmp4' Try.results53 _ _) rfl ?_
              exact RetDF.fail hno.out rfl rfl hB
            have e0 : ((p : Int) == 0) = false := beq_eq_false_iff_ne.2 (by omega)
            have e1 : 1 ≤ p := by omega
            have hI00 : bN (s.extract 0 p) 0 = bN s 0 := hI0 (by omega)
            by_cases hld : 1 < p ∧ bN s 0 = 48
            · have hno := Lib.hid (nokF_B HBD.out fun h => (HOK.out.1 h).2.1 hld)
              have e2 : ((bN s 0 : Int) == 48) = true := by rw [hld.2]; rfl
              have e3 : 1 < p := hld.1
              clear hld hp0
              go_wp2_with (go_at_call 68; (with_reducible refine HD.out.mono ?_); rintro e w' ⟨rfl, rfl⟩)
              refine bodyPost_ret (results_tmp4' Try.results53 _ _) rfl ?_
              exact RetDF.fail hno.out rfl rfl hB
            have HLD := Lib.hid (show p ≠ 0 ∧ ¬ (1 < p ∧ bN s 0 = 48) from ⟨hp0, hld⟩)
            by_cases h1p : 1 < p
            · have e2 : ((bN s 0 : Int) == 48) = false := beq_eq_false_iff_ne.2 (fun h => hld ⟨h1p, by omega⟩)
              have e3 : decide ((1 : Int) < (p : Int)) = true := decide_eq_true (by omega)
              have e4 : decide (1 < p) = true := decide_eq_true h1p
              clear hld hp0
              generalize bN s 0 = d at *
              by_cases h46 : bN s p = 46
              · have hd : ((bN s p : Int) != 46) = false := by rw [h46]; rfl
                have HC46 := Lib.hid h46
                clear h46
                by_cases hF0 : s.size - (p + 1) = 0
                · have hno := Lib.hid (nokF_B HBD.out fun h => ((HOK.out.1 h).2.2 hpt).2.1 (by rw [HFF.out, hF1]; exact hF0))
                  have hF0' : s.size ≤ p + 1 := by omega
                  clear hF0
                  generalize hV : bN s p = V at *
                  go_wp2_with (go_at_call 68; (with_reducible refine HD.out.mono ?_); rintro e w' ⟨rfl, rfl⟩)
                  refine bodyPost_ret (results_tmp4' Try.results53 _ _) rfl ?_
                  exact RetDF.fail hno.out rfl rfl hB
                have HF0 := Lib.hid (show (fp s).size ≠ 0 by rw [HFF.out, hF1]; exact hF0)
                have hF0' : p + 1 < s.size := by omega
                have hz0 : (((s.size - (p + 1) : Nat) : Int) == 0) = false := beq_eq_false_iff_ne.2 (by omega)
                clear hF0
                have hbG := get_bN (s.extract (p + 1) s.size)
                have hcl := cd_le (s.extract (p + 1) s.size)
                have HDG2 := Lib.hid (fun k => cd_dig (s.extract (p + 1) s.size) (k := k))
                have HST2 := Lib.hid (cd_stop (s.extract (p + 1) s.size))
                have HC2 := Lib.hid (show fp s = s.extract (p + 1) s.size → cd (fp s) = cd (s.extract (p + 1) s.size) from fun h => by rw [h])
                generalize cd (s.extract (p + 1) s.size) = q at *
                generalize hV : bN s p = V at *
                go_wp2_with (go_at_call 68; (with_reducible refine HD.out.mono ?_); rintro e w' ⟨rfl, rfl⟩)
                go_loop [2, 3, 4, 5, 7] (fun x2 x3 x4 x5 i => x2 = .bool false ∧ x3 = .string (s.extract 0 p) ∧ x4 = .string (s.extract (p + 1) s.size) ∧ x5 = .bool false ∧ ∃ j : Nat, i = .int .i64 (j : Int) ∧ j ≤ q) (fun _ _ _ _ i => q - (intOf i).toNat)
                case atStart => exact ⟨rfl, rfl, rfl, rfl, 0, rfl, Nat.zero_le _⟩
                case round =>
                  clear hV HD hix
                  generalize s.extract (p + 1) s.size = G at *
                  generalize s.extract 0 p = I at *
                  obtain ⟨rfl, rfl, rfl, rfl, k, rfl, hk⟩ := hrel
                  by_cases hkq : k < q
                  · have hix := bN_lt G k
                    have hD := rdigit_any (bN G k) w hix
                    rw [decide_eq_true (HDG2.out k hkq)] at hD
                    have HD := Lib.hid hD; clear hD
                    generalize hV2 : bN G k = V2 at *
                    go_wp2_with (go_at_call 68; (with_reducible refine HD.out.mono ?_); rintro e w' ⟨rfl, rfl⟩)
                    go_round
                    case rel => exact ⟨rfl, rfl, rfl, rfl, k + 1, by go_num, hkq⟩
                    case measure => simp [intOf] <;> omega
                  · obtain rfl : q = k := by omega
                    clear hkq
                    by_cases hkG : q < G.size
                    · have hno := Lib.hid (nokF_B HBD.out fun h => by have h1 := ((HOK.out.1 h).2.2 hpt).2.2; rw [HC2.out HFF.out, HFF.out] at h1; omega)
                      have hix := bN_lt G q
                      have hD := rdigit_any (bN G q) w hix
                      rw [decide_eq_false (HST2.out hkG)] at hD
                      have HD := Lib.hid hD; clear hD
                      generalize hV2 : bN G q = V2 at *
                      go_wp2_with (go_at_call 68; (with_reducible refine HD.out.mono ?_); rintro e w' ⟨rfl, rfl⟩)
                      refine bodyPost_ret (results_tmp4' Try.results53 _ _) rfl ?_
                      exact RetDF.fail hno.out rfl rfl hB
                    · have hok := Lib.hid (HOK.out.2 ⟨HLD.out.1, HLD.out.2, fun _ => ⟨HC46.out, HF0.out, by rw [HC2.out HFF.out, HFF.out]; omega⟩⟩)
                      have hA : ip s ++ fp s = (I ++ G) := by rw [HII.out, HFF.out]
                      have hnok : false = true → allz (I ++ G) = true → ¬ okF s := fun hb h => nokF_Z HBD.out (HNG.out.trans hb) (by rw [hA]; exact h)
                      have hyes : ¬ (false = true ∧ allz (I ++ G) = true) → okF s := fun hz => okF_of HBD.out HNG.out hok.out (by rw [hA]; exact hz)
                      have HNO := Lib.hid hnok; have HYES := Lib.hid hyes; clear hnok hyes hA
                      have HSA := Lib.hid (show ((I ++ G)).size = (I.size + G.size) from ByteArray.size_append)
                      have hbA := get_bN (I ++ G)
                      go_wp2
                      go_loop [8, 9] (fun z k => ∃ (Z : Bool) (j : Nat), z = .bool Z ∧ k = .int .i64 (j : Int) ∧ j ≤ (I.size + G.size) ∧ (Z = true ↔ zUp (I ++ G) j)) (fun _ k => (I.size + G.size) - (intOf k).toNat)
                      case atStart => exact ⟨true, 0, rfl, rfl, Nat.zero_le _, zUp_zero _⟩
                      case round =>
                        obtain ⟨Z, j, rfl, rfl, hj, hz⟩ := hrel
                        have HZ := Lib.hid hz; clear hz
                        by_cases hlt : j < (I.size + G.size)
                        · have hix := bN_lt (I ++ G) j
                          cases Z
                          · have hN := Lib.hid (zUp_no HZ.out)
                            go_wp2
                            go_round
                            case rel => exact ⟨false, j + 1, rfl, by go_num, hlt, hN.out⟩
                            case measure => simp [intOf] <;> omega
                          · by_cases h48 : bN (I ++ G) j = 48
                            · have hd : ((bN (I ++ G) j : Int) == 48) = true := by rw [h48]; rfl
                              have hN := Lib.hid (zUp_go HZ.out h48)
                              clear h48
                              generalize hV3 : bN (I ++ G) j = V3 at *
                              go_wp2
                              go_round
                              case rel => exact ⟨true, j + 1, by go_num, by go_num, hlt, hN.out⟩
                              case measure => simp [intOf] <;> omega
                            · have hd : ((bN (I ++ G) j : Int) == 48) = false := beq_eq_false_iff_ne.2 (by omega)
                              have hN := Lib.hid (@zUp_stop (I ++ G) j h48)
                              clear h48
                              generalize hV3 : bN (I ++ G) j = V3 at *
                              go_wp2
                              go_round
                              case rel => exact ⟨false, j + 1, by go_num, by go_num, hlt, hN.out⟩
                              case measure => simp [intOf] <;> omega
                        · have ha := zUp_all HZ.out (by rw [HSA.out]; omega)
                          have HAZ := Lib.hid ha; clear ha
                          have hyy := Lib.hid (HYES.out (fun h => by cases h.1))
                          go_wp2
                          refine bodyPost_ret (results_tmp4' Try.results53 _ _) rfl ?_
                          exact RetDF.ok hyy.out HNG.out (by rw [HBD.out]; exact HII.out) (by rw [HBD.out]; exact HFF.out) rfl rfl hB
              · have hd : ((bN s p : Int) != 46) = true := bne_iff_ne.2 (by omega)
                have hno := Lib.hid (nokF_B HBD.out fun h => h46 (((HOK.out.1 h).2.2 hpt).1))
                clear h46
                generalize hV : bN s p = V at *
                go_wp2_with (go_at_call 68; (with_reducible refine HD.out.mono ?_); rintro e w' ⟨rfl, rfl⟩)
                refine bodyPost_ret (results_tmp4' Try.results53 _ _) rfl ?_
                exact RetDF.fail hno.out rfl rfl hB
            · clear hld hp0
              by_cases h46 : bN s p = 46
              · have hd : ((bN s p : Int) != 46) = false := by rw [h46]; rfl
                have HC46 := Lib.hid h46
                clear h46
                by_cases hF0 : s.size - (p + 1) = 0
                · have hno := Lib.hid (nokF_B HBD.out fun h => ((HOK.out.1 h).2.2 hpt).2.1 (by rw [HFF.out, hF1]; exact hF0))
                  have hF0' : s.size ≤ p + 1 := by omega
                  clear hF0
                  generalize hV : bN s p = V at *
                  go_wp2_with (go_at_call 68; (with_reducible refine HD.out.mono ?_); rintro e w' ⟨rfl, rfl⟩)
                  refine bodyPost_ret (results_tmp4' Try.results53 _ _) rfl ?_
                  exact RetDF.fail hno.out rfl rfl hB
                have HF0 := Lib.hid (show (fp s).size ≠ 0 by rw [HFF.out, hF1]; exact hF0)
                have hF0' : p + 1 < s.size := by omega
                have hz0 : (((s.size - (p + 1) : Nat) : Int) == 0) = false := beq_eq_false_iff_ne.2 (by omega)
                clear hF0
                have hbG := get_bN (s.extract (p + 1) s.size)
                have hcl := cd_le (s.extract (p + 1) s.size)
                have HDG2 := Lib.hid (fun k => cd_dig (s.extract (p + 1) s.size) (k := k))
                have HST2 := Lib.hid (cd_stop (s.extract (p + 1) s.size))
                have HC2 := Lib.hid (show fp s = s.extract (p + 1) s.size → cd (fp s) = cd (s.extract (p + 1) s.size) from fun h => by rw [h])
                generalize cd (s.extract (p + 1) s.size) = q at *
                generalize hV : bN s p = V at *
                go_wp2_with (go_at_call 68; (with_reducible refine HD.out.mono ?_); rintro e w' ⟨rfl, rfl⟩)
                go_loop [2, 3, 4, 5, 7] (fun x2 x3 x4 x5 i => x2 = .bool false ∧ x3 = .string (s.extract 0 p) ∧ x4 = .string (s.extract (p + 1) s.size) ∧ x5 = .bool false ∧ ∃ j : Nat, i = .int .i64 (j : Int) ∧ j ≤ q) (fun _ _ _ _ i => q - (intOf i).toNat)
                case atStart => exact ⟨rfl, rfl, rfl, rfl, 0, rfl, Nat.zero_le _⟩
                case round =>
                  clear hV HD hix
                  generalize s.extract (p + 1) s.size = G at *
                  generalize s.extract 0 p = I at *
                  obtain ⟨rfl, rfl, rfl, rfl, k, rfl, hk⟩ := hrel
                  by_cases hkq : k < q
                  · have hix := bN_lt G k
                    have hD := rdigit_any (bN G k) w hix
                    rw [decide_eq_true (HDG2.out k hkq)] at hD
                    have HD := Lib.hid hD; clear hD
                    generalize hV2 : bN G k = V2 at *
                    go_wp2_with (go_at_call 68; (with_reducible refine HD.out.mono ?_); rintro e w' ⟨rfl, rfl⟩)
                    go_round
                    case rel => exact ⟨rfl, rfl, rfl, rfl, k + 1, by go_num, hkq⟩
                    case measure => simp [intOf] <;> omega
                  · obtain rfl : q = k := by omega
                    clear hkq
                    by_cases hkG : q < G.size
                    · have hno := Lib.hid (nokF_B HBD.out fun h => by have h1 := ((HOK.out.1 h).2.2 hpt).2.2; rw [HC2.out HFF.out, HFF.out] at h1; omega)
                      have hix := bN_lt G q
                      have hD := rdigit_any (bN G q) w hix
                      rw [decide_eq_false (HST2.out hkG)] at hD
                      have HD := Lib.hid hD; clear hD
                      generalize hV2 : bN G q = V2 at *
                      go_wp2_with (go_at_call 68; (with_reducible refine HD.out.mono ?_); rintro e w' ⟨rfl, rfl⟩)
                      refine bodyPost_ret (results_tmp4' Try.results53 _ _) rfl ?_
                      exact RetDF.fail hno.out rfl rfl hB
                    · have hok := Lib.hid (HOK.out.2 ⟨HLD.out.1, HLD.out.2, fun _ => ⟨HC46.out, HF0.out, by rw [HC2.out HFF.out, HFF.out]; omega⟩⟩)
                      have hA : ip s ++ fp s = (I ++ G) := by rw [HII.out, HFF.out]
                      have hnok : false = true → allz (I ++ G) = true → ¬ okF s := fun hb h => nokF_Z HBD.out (HNG.out.trans hb) (by rw [hA]; exact h)
                      have hyes : ¬ (false = true ∧ allz (I ++ G) = true) → okF s := fun hz => okF_of HBD.out HNG.out hok.out (by rw [hA]; exact hz)
                      have HNO := Lib.hid hnok; have HYES := Lib.hid hyes; clear hnok hyes hA
                      have HSA := Lib.hid (show ((I ++ G)).size = (I.size + G.size) from ByteArray.size_append)
                      have hbA := get_bN (I ++ G)
                      go_wp2
                      go_loop [8, 9] (fun z k => ∃ (Z : Bool) (j : Nat), z = .bool Z ∧ k = .int .i64 (j : Int) ∧ j ≤ (I.size + G.size) ∧ (Z = true ↔ zUp (I ++ G) j)) (fun _ k => (I.size + G.size) - (intOf k).toNat)
                      case atStart => exact ⟨true, 0, rfl, rfl, Nat.zero_le _, zUp_zero _⟩
                      case round =>
                        obtain ⟨Z, j, rfl, rfl, hj, hz⟩ := hrel
                        have HZ := Lib.hid hz; clear hz
                        by_cases hlt : j < (I.size + G.size)
                        · have hix := bN_lt (I ++ G) j
                          cases Z
                          · have hN := Lib.hid (zUp_no HZ.out)
                            go_wp2
                            go_round
                            case rel => exact ⟨false, j + 1, rfl, by go_num, hlt, hN.out⟩
                            case measure => simp [intOf] <;> omega
                          · by_cases h48 : bN (I ++ G) j = 48
                            · have hd : ((bN (I ++ G) j : Int) == 48) = true := by rw [h48]; rfl
                              have hN := Lib.hid (zUp_go HZ.out h48)
                              clear h48
                              generalize hV3 : bN (I ++ G) j = V3 at *
                              go_wp2
                              go_round
                              case rel => exact ⟨true, j + 1, by go_num, by go_num, hlt, hN.out⟩
                              case measure => simp [intOf] <;> omega
                            · have hd : ((bN (I ++ G) j : Int) == 48) = false := beq_eq_false_iff_ne.2 (by omega)
                              have hN := Lib.hid (@zUp_stop (I ++ G) j h48)
                              clear h48
                              generalize hV3 : bN (I ++ G) j = V3 at *
                              go_wp2
                              go_round
                              case rel => exact ⟨false, j + 1, by go_num, by go_num, hlt, hN.out⟩
                              case measure => simp [intOf] <;> omega
                        · have ha := zUp_all HZ.out (by rw [HSA.out]; omega)
                          have HAZ := Lib.hid ha; clear ha
                          have hyy := Lib.hid (HYES.out (fun h => by cases h.1))
                          go_wp2
                          refine bodyPost_ret (results_tmp4' Try.results53 _ _) rfl ?_
                          exact RetDF.ok hyy.out HNG.out (by rw [HBD.out]; exact HII.out) (by rw [HBD.out]; exact HFF.out) rfl rfl hB
              · have hd : ((bN s p : Int) != 46) = true := bne_iff_ne.2 (by omega)
                have hno := Lib.hid (nokF_B HBD.out fun h => h46 (((HOK.out.1 h).2.2 hpt).1))
                clear h46
                generalize hV : bN s p = V at *
                go_wp2_with (go_at_call 68; (with_reducible refine HD.out.mono ?_); rintro e w' ⟨rfl, rfl⟩)
                refine bodyPost_ret (results_tmp4' Try.results53 _ _) rfl ?_
                exact RetDF.fail hno.out rfl rfl hB
          · rw [if_neg hpt] at hfpp
            have HFF := Lib.hid hfpp; clear hfpp
            have hbI := get_bN (s.extract 0 p)
            by_cases hp0 : p = 0
            · have hno := Lib.hid (nokF_B HBD.out fun h => (HOK.out.1 h).1 hp0)
              have e0 : ((p : Int) == 0) = true := by rw [hp0]; rfl
              have e1 : p ≤ 0 := Nat.le_of_eq hp0
              clear hp0
              go_wp2
              refine bodyPost_ret (results_tmp4' Try.results53 _ _) rfl ?_
              exact RetDF.fail hno.out rfl rfl hB
            have e0 : ((p : Int) == 0) = false := beq_eq_false_iff_ne.2 (by omega)
            have e1 : 1 ≤ p := by omega
            have hI00 : bN (s.extract 0 p) 0 = bN s 0 := hI0 (by omega)
            by_cases hld : 1 < p ∧ bN s 0 = 48
            · have hno := Lib.hid (nokF_B HBD.out fun h => (HOK.out.1 h).2.1 hld)
              have e2 : ((bN s 0 : Int) == 48) = true := by rw [hld.2]; rfl
              have e3 : 1 < p := hld.1
              clear hld hp0
              go_wp2
              refine bodyPost_ret (results_tmp4' Try.results53 _ _) rfl ?_
              exact RetDF.fail hno.out rfl rfl hB
            have HLD := Lib.hid (show p ≠ 0 ∧ ¬ (1 < p ∧ bN s 0 = 48) from ⟨hp0, hld⟩)
            by_cases h1p : 1 < p
            · have e2 : ((bN s 0 : Int) == 48) = false := beq_eq_false_iff_ne.2 (fun h => hld ⟨h1p, by omega⟩)
              have e3 : decide ((1 : Int) < (p : Int)) = true := decide_eq_true (by omega)
              have e4 : decide (1 < p) = true := decide_eq_true h1p
              clear hld hp0
              generalize bN s 0 = d at *
              have hok := Lib.hid (HOK.out.2 ⟨HLD.out.1, HLD.out.2, fun h => absurd h hpt⟩)
              have hA : ip s ++ fp s = (s.extract 0 p) := by rw [HII.out, HFF.out]; exact ByteArray.append_empty
              have hnok : false = true → allz (s.extract 0 p) = true → ¬ okF s := fun hb h => nokF_Z HBD.out (HNG.out.trans hb) (by rw [hA]; exact h)
              have hyes : ¬ (false = true ∧ allz (s.extract 0 p) = true) → okF s := fun hz => okF_of HBD.out HNG.out hok.out (by rw [hA]; exact hz)
              have HNO := Lib.hid hnok; have HYES := Lib.hid hyes; clear hnok hyes hA
              have HSA := Lib.hid (show ((s.extract 0 p)).size = p from hI1)
              have hbA := get_bN (s.extract 0 p)
              go_wp2
              go_loop [8, 9] (fun z k => ∃ (Z : Bool) (j : Nat), z = .bool Z ∧ k = .int .i64 (j : Int) ∧ j ≤ p ∧ (Z = true ↔ zUp (s.extract 0 p) j)) (fun _ k => p - (intOf k).toNat)
              case atStart => exact ⟨true, 0, rfl, rfl, Nat.zero_le _, zUp_zero _⟩
              case round =>
                obtain ⟨Z, j, rfl, rfl, hj, hz⟩ := hrel
                have HZ := Lib.hid hz; clear hz
                by_cases hlt : j < p
                · have hix := bN_lt (s.extract 0 p) j
                  cases Z
                  · have hN := Lib.hid (zUp_no HZ.out)
                    go_wp2
                    go_round
                    case rel => exact ⟨false, j + 1, rfl, by go_num, hlt, hN.out⟩
                    case measure => simp [intOf] <;> omega
                  · by_cases h48 : bN (s.extract 0 p) j = 48
                    · have hd : ((bN (s.extract 0 p) j : Int) == 48) = true := by rw [h48]; rfl
                      have hN := Lib.hid (zUp_go HZ.out h48)
                      clear h48
                      generalize hV3 : bN (s.extract 0 p) j = V3 at *
                      go_wp2
                      go_round
                      case rel => exact ⟨true, j + 1, by go_num, by go_num, hlt, hN.out⟩
                      case measure => simp [intOf] <;> omega
                    · have hd : ((bN (s.extract 0 p) j : Int) == 48) = false := beq_eq_false_iff_ne.2 (by omega)
                      have hN := Lib.hid (@zUp_stop (s.extract 0 p) j h48)
                      clear h48
                      generalize hV3 : bN (s.extract 0 p) j = V3 at *
                      go_wp2
                      go_round
                      case rel => exact ⟨false, j + 1, by go_num, by go_num, hlt, hN.out⟩
                      case measure => simp [intOf] <;> omega
                · have ha := zUp_all HZ.out (by rw [HSA.out]; omega)
                  have HAZ := Lib.hid ha; clear ha
                  have hyy := Lib.hid (HYES.out (fun h => by cases h.1))
                  go_wp2
                  refine bodyPost_ret (results_tmp4' Try.results53 _ _) rfl ?_
                  exact RetDF.ok hyy.out HNG.out (by rw [HBD.out]; exact HII.out) (by rw [HBD.out]; exact HFF.out) rfl rfl hB
            · clear hld hp0
              have hok := Lib.hid (HOK.out.2 ⟨HLD.out.1, HLD.out.2, fun h => absurd h hpt⟩)
              have hA : ip s ++ fp s = (s.extract 0 p) := by rw [HII.out, HFF.out]; exact ByteArray.append_empty
              have hnok : false = true → allz (s.extract 0 p) = true → ¬ okF s := fun hb h => nokF_Z HBD.out (HNG.out.trans hb) (by rw [hA]; exact h)
              have hyes : ¬ (false = true ∧ allz (s.extract 0 p) = true) → okF s := fun hz => okF_of HBD.out HNG.out hok.out (by rw [hA]; exact hz)
              have HNO := Lib.hid hnok; have HYES := Lib.hid hyes; clear hnok hyes hA
              have HSA := Lib.hid (show ((s.extract 0 p)).size = p from hI1)
              have hbA := get_bN (s.extract 0 p)
              go_wp2
              go_loop [8, 9] (fun z k => ∃ (Z : Bool) (j : Nat), z = .bool Z ∧ k = .int .i64 (j : Int) ∧ j ≤ p ∧ (Z = true ↔ zUp (s.extract 0 p) j)) (fun _ k => p - (intOf k).toNat)
              case atStart => exact ⟨true, 0, rfl, rfl, Nat.zero_le _, zUp_zero _⟩
              case round =>
                obtain ⟨Z, j, rfl, rfl, hj, hz⟩ := hrel
                have HZ := Lib.hid hz; clear hz
                by_cases hlt : j < p
                · have hix := bN_lt (s.extract 0 p) j
                  cases Z
                  · have hN := Lib.hid (zUp_no HZ.out)
                    go_wp2
                    go_round
                    case rel => exact ⟨false, j + 1, rfl, by go_num, hlt, hN.out⟩
                    case measure => simp [intOf] <;> omega
                  · by_cases h48 : bN (s.extract 0 p) j = 48
                    · have hd : ((bN (s.extract 0 p) j : Int) == 48) = true := by rw [h48]; rfl
                      have hN := Lib.hid (zUp_go HZ.out h48)
                      clear h48
                      generalize hV3 : bN (s.extract 0 p) j = V3 at *
                      go_wp2
                      go_round
                      case rel => exact ⟨true, j + 1, by go_num, by go_num, hlt, hN.out⟩
                      case measure => simp [intOf] <;> omega
                    · have hd : ((bN (s.extract 0 p) j : Int) == 48) = false := beq_eq_false_iff_ne.2 (by omega)
                      have hN := Lib.hid (@zUp_stop (s.extract 0 p) j h48)
                      clear h48
                      generalize hV3 : bN (s.extract 0 p) j = V3 at *
                      go_wp2
                      go_round
                      case rel => exact ⟨false, j + 1, by go_num, by go_num, hlt, hN.out⟩
                      case measure => simp [intOf] <;> omega
                · have ha := zUp_all HZ.out (by rw [HSA.out]; omega)
                  have HAZ := Lib.hid ha; clear ha
                  have hyy := Lib.hid (HYES.out (fun h => by cases h.1))
                  go_wp2
                  refine bodyPost_ret (results_tmp4' Try.results53 _ _) rfl ?_
                  exact RetDF.ok hyy.out HNG.out (by rw [HBD.out]; exact HII.out) (by rw [HBD.out]; exact HFF.out) rfl rfl hB
    · obtain rfl := is_empty h0
      have hno := Lib.hid (nokF_B HBD.out fun h => h.1 rfl)
      clear hb
      go_enter Try.func53, Try.ntmps53
      go_wp2
      go_loop [6] (fun i => i = .int .i64 0) (fun _ => 0)
      case atStart => rfl
      case round =>
        obtain rfl := hrel
        go_wp2
        refine bodyPost_ret (results_tmp4' Try.results53 _ _) rfl ?_
        exact RetDF.fail hno.out rfl rfl (Below.refl _ _)
end Go.Proofs.Ytidlemedkjkmdaa
