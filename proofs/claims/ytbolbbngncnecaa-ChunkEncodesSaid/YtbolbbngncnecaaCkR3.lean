/- The walks over the reference's chunks: EncodeChunk. -/
import Derived.Test.YtbolbbngncnecaaCkR2
namespace Go.CK
open Go.RowKit Go.VB Go.VarM Go.BP Go.VS Go.NU Go.VL
/-- The best chunk so far. -/
def bstB (typ : Int) (l : List Vl) : Nat → List UInt8
  | 0 => []
  | k + 1 => if uses typ ((k + 1 : Nat) : Int) = true ∧ (bstB typ l k = [] ∨ (buildB typ ((k + 1 : Nat) : Int) l).length < (bstB typ l k).length) then buildB typ ((k + 1 : Nat) : Int) l else bstB typ l k
theorem bstB_4 (typ : Int) (l : List Vl) : bstB typ l 4 = bestB typ l := by
  have n1 : ∀ k : Int, buildB typ k l ≠ [] := fun k e => by have := build_len typ k l; rw [e] at this; simp at this
  have e1 : bstB typ l 1 = buildB typ 1 l := by
    unfold bstB
    rw [if_pos]
    · rfl
    · refine ⟨?_, .inl rfl⟩
      by_cases ht : typ = 3
      · exact (uses_t3 ht).1
      · exact (uses_tn ht).1
  unfold bestB
  by_cases ht : typ = 3
  · subst ht
    rw [if_pos rfl]
    have e2 : bstB 3 l 2 = buildB 3 1 l := by
      rw [bstB, if_neg (fun h => by have := h.1; simp [uses] at this), e1]
    have e3 : bstB 3 l 3 = if (buildB 3 3 l).length < (buildB 3 1 l).length then buildB 3 3 l else buildB 3 1 l := by
      rw [bstB, e2]
      by_cases h : (buildB 3 3 l).length < (buildB 3 1 l).length
      · rw [if_pos h, if_pos ⟨rfl, .inr h⟩]; rfl
      · rw [if_neg h, if_neg (fun hh => hh.2.elim (n1 1) h)]
    rw [bstB, if_neg (fun h => by have := h.1; simp [uses] at this), e3]
  · rw [if_neg ht]
    have hu := uses_tn ht
    have e2 : bstB typ l 2 = if (buildB typ 2 l).length < (buildB typ 1 l).length then buildB typ 2 l else buildB typ 1 l := by
      rw [bstB, e1]
      by_cases h : (buildB typ 2 l).length < (buildB typ 1 l).length
      · rw [if_pos h, if_pos ⟨hu.2.1, .inr h⟩]; rfl
      · rw [if_neg h, if_neg (fun hh => hh.2.elim (n1 1) h)]
    have e3 : bstB typ l 3 = bstB typ l 2 := by
      rw [bstB, if_neg]
      rintro ⟨h, _⟩
      unfold uses at h
      rw [if_neg ht] at h
      simp at h
    rw [bstB, e3, e2]
    by_cases h : (buildB typ 2 l).length < (buildB typ 1 l).length
    · rw [if_pos h, if_pos h]
      by_cases h4 : (buildB typ 4 l).length < (buildB typ 2 l).length
      · rw [if_pos h4, if_pos ⟨hu.2.2, .inr h4⟩]; rfl
      · rw [if_neg h4, if_neg (fun hh => hh.2.elim (n1 2) h4)]
    · rw [if_neg h, if_neg h]
      by_cases h4 : (buildB typ 4 l).length < (buildB typ 1 l).length
      · rw [if_pos h4, if_pos ⟨hu.2.2, .inr h4⟩]; rfl
      · rw [if_neg h4, if_neg (fun hh => hh.2.elim (n1 1) h4)]
theorem bstB_no {typ : Int} {l : List Vl} {k : Nat} (h : uses typ ((k + 1 : Nat) : Int) = false) : bstB typ l (k + 1) = bstB typ l k := by rw [bstB, if_neg (fun hh => by rw [h] at hh; exact absurd hh.1 (by decide))]
theorem bstB_yes {typ : Int} {l : List Vl} {k : Nat} (h : uses typ ((k + 1 : Nat) : Int) = true) (hb : bstB typ l k = [] ∨ (buildB typ ((k + 1 : Nat) : Int) l).length < (bstB typ l k).length) : bstB typ l (k + 1) = buildB typ ((k + 1 : Nat) : Int) l := by rw [bstB, if_pos ⟨h, hb⟩]
theorem bstB_old {typ : Int} {l : List Vl} {k : Nat} (h0 : bstB typ l k ≠ []) (hb : ¬ (buildB typ ((k + 1 : Nat) : Int) l).length < (bstB typ l k).length) : bstB typ l (k + 1) = bstB typ l k := by rw [bstB, if_neg (fun hh => hh.2.elim h0 hb)]
theorem str_is_nil {b : List UInt8} (h : b = []) : ((str b).toList == (⟨#[]⟩ : ByteArray).toList) = true := text_eq (by rw [h]; rfl)
theorem str_emp {b : List UInt8} (h : b = []) : (str b).toList.isEmpty = true := by rw [ByteArray.toList_eq, h]; rfl
theorem str_fullC {b : List UInt8} (h : b ≠ []) : (str b).toList.isEmpty = false := by
  rw [ByteArray.toList_eq]
  cases b with
  | nil => exact absurd rfl h
  | cons _ _ => rfl
theorem str_not_nil {b : List UInt8} (h : b ≠ []) : ((str b).toList == (⟨#[]⟩ : ByteArray).toList) = false := text_ne (fun e => h (str_inj (b := []) e))
end Go.CK
namespace Go.Proofs.Ytbolbbngncnecaa
open Go.RowKit Go.VB Go.VarM Go.BP Go.RL Go.VS Go.VL Go.DI Go.CK Go.NU
section
variable (nm : ByteArray) (ty sc : Int) (nu : Bool) (v : Value) (l : List Vl) (W : World)
set_option maxRecDepth 100000 in
set_option maxHeartbeats 400000 in
theorem renc_type (hT : okT ty = false) : Calls Try.prog 14 #[(.agg #[.string nm, .int .i64 ty, .int .i64 sc, .bool nu]), v] W (RetB (.tuple #[.string ⟨#[]⟩, .int .i64 1]) W) := by
  have HT := fun w => Lib.hid (rtyped_any ty w)
  rw [hT] at HT
  have HB1 := Lib.hid ((Below.refl W.heap.size W).alloc (Nat.le_refl _) (.cells #[.string nm, .int .i64 ty, .int .i64 sc, .bool nu] 26))
  clear hT
  go_enter Try.func14, Try.ntmps14
  go_wp2_with fail
  (with_reducible refine (HT _).out.mono ?_); rintro e w1 ⟨rfl, rfl⟩
  go_wp2
  go_ret2
  exact RetB.mk rfl HB1.out
set_option maxRecDepth 100000 in
set_option maxHeartbeats 400000 in
theorem renc_full (hT : okT ty = true) (hr : RdL W W.heap.size v l) (hl : 4096 < l.length) : Calls Try.prog 14 #[(.agg #[.string nm, .int .i64 ty, .int .i64 sc, .bool nu]), v] W (RetB (.tuple #[.string ⟨#[]⟩, .int .i64 7]) W) := by
  obtain ⟨A, c, _, rfl, rfl, hc1, hc2⟩ := hr.bds
  have HT := fun w => Lib.hid (rtyped_any ty w)
  rw [hT] at HT
  have HB1 := Lib.hid ((Below.refl W.heap.size W).alloc (Nat.le_refl _) (.cells #[.string nm, .int .i64 ty, .int .i64 sc, .bool nu] 26))
  have hd : decide ((4096 : Int) < (l.length : Int)) = true := decide_eq_true (by omega)
  have hd2 : decide (4096 < l.length) = true := decide_eq_true (by omega)
  clear hT hr
  go_enter Try.func14, Try.ntmps14
  go_wp2_with fail
  (with_reducible refine (HT _).out.mono ?_); rintro e w1 ⟨rfl, rfl⟩
  go_wp2
  go_ret2
  exact RetB.mk rfl HB1.out
set_option maxRecDepth 100000 in
set_option maxHeartbeats 1000000 in
theorem renc_in (hT : okT ty = true) (hr : RdL W W.heap.size v l) (hl : l.length ≤ 4096) (hb : ∀ x ∈ l, -9223372036854775808 ≤ x.n ∧ x.n ≤ 9223372036854775807) (R : ByteArray) (E : Nat)
    (hbad : ∀ e, firstE ty nu l = e → e ≠ 0 → R = ⟨#[]⟩ ∧ E = e) (hgood : firstE ty nu l = 0 → R = str (bestB ty l) ∧ E = 0) :
    Calls Try.prog 14 #[(.agg #[.string nm, .int .i64 ty, .int .i64 sc, .bool nu]), v] W (RetB (.tuple #[.string R, .int .i64 (E : Int)]) W) := by
  obtain ⟨A, c, _, rfl, rfl, hc1, hc2⟩ := hr.bds
  have HT := fun w => Lib.hid (rtyped_any ty w)
  rw [hT] at HT
  have HB1 := Lib.hid ((Below.refl W.heap.size W).alloc (Nat.le_refl _) (.cells #[.string nm, .int .i64 ty, .int .i64 sc, .bool nu] 26))
  have HS1 := Lib.hid (show (W.alloc (.cells #[.string nm, .int .i64 ty, .int .i64 sc, .bool nu] 26)).heap.size = W.heap.size + 1 from by simp)
  have HV := Lib.hid (Var4.new W (.string nm) (.int .i64 ty) (.int .i64 sc) (.bool nu) 26)
  have HR := Lib.hid (hr.step HB1.out)
  have HH := fun i x => Lib.hid (firstE_hit (typ := ty) (nu := nu) (l := l) (i := i) (x := x))
  have HM := Lib.hid (firstE_none (typ := ty) (nu := nu) (l := l))
  have HOK := Lib.hid (fun h => ok_of (nu := nu) hT h hb)
  have HBU := fun (k : Nat) w h1 h4 hr hv => Lib.hid (cbuild_any nm ty sc nu k (.slice A l.length c) l w h1 h4 hr hl hv)
  have HU := fun k w => Lib.hid (uses_any ty k w)
  have HBAD := Lib.hid hbad; have HGOOD := Lib.hid hgood
  clear hT hr hb hbad hgood
  go_enter Try.func14, Try.ntmps14
  go_wp2_with fail
  (with_reducible refine (HT _).out.mono ?_); rintro e w1 ⟨rfl, rfl⟩
  go_wp2_with fail
  go_loopw [4, 5, 7, 8, 21] (fun r1 r2 _ _ i wr => ∃ j : Nat, r1 = .string ⟨#[]⟩ ∧ r2 = .int .i64 0 ∧ i = .int .i64 j ∧ j ≤ l.length ∧ Below (W.heap.size + 1) (W.alloc (.cells #[.string nm, .int .i64 ty, .int .i64 sc, .bool nu] 26)) wr ∧ ∀ m y, m < j → l[m]? = some y → chkV ty nu y = 0) (fun _ _ _ _ i _ => l.length - (intOf i).toNat)
  case atStart => exact ⟨0, rfl, rfl, rfl, Nat.zero_le _, Below.refl _ _, fun m y h => absurd h (Nat.not_lt_zero _)⟩
  case round =>
    obtain ⟨j, rfl, rfl, rfl, hj, hbel, hf⟩ := hrel
    have HF := Lib.hid hf; clear hf
    have hsz := hbel.size
    rw [HS1.out] at hsz
    by_cases hlt : j < l.length
    · have hlj : l[j]? = some l[j] := List.getElem?_eq_getElem hlt
      obtain ⟨ad, rfl, _, q0, q1, q2⟩ := (HR.out.below (hbel.mono (by rw [HS1.out]; exact Nat.le_refl _))).at hlj
      have HJ := Lib.hid hlj; clear hlj
      generalize l[j] = X at q0 q1 q2 HJ
      obtain ⟨xb, xn, xs⟩ := X
      simp only at q0 q1 q2
      obtain ⟨v0, v1, v2, v3⟩ := HV.out.below (hbel.alloc hsz (.cells #[.bool xb, .int .i64 xn, .string xs] 43)) (Nat.lt_succ_self _)
      have HBV := Lib.hid (hbel.alloc hsz (.cells #[.bool xb, .int .i64 xn, .string xs] 43))
      have HSV := Lib.hid (show (wr.alloc (.cells #[.bool xb, .int .i64 xn, .string xs] 43)).heap.size = wr.heap.size + 1 by simp)
      go_wp2_with fail
      (with_reducible refine (rchk_any nm ty sc nu xb xn xs _).mono ?_); rintro e w2 ⟨rfl, hb2⟩
      have hb3 := HBV.out.trans (hb2.mono (by rw [HSV.out]; omega))
      obtain ⟨C, hC⟩ : ∃ C, chkV ty nu ⟨xb, xn, xs⟩ = C := ⟨_, rfl⟩
      have hC' : chk ty nu xb xn xs = C := hC
      rw [hC']
      have HC := Lib.hid hC
      clear hC hC' hb2 HBV q0 q1 q2 v0 v1 v2 v3
      by_cases h0 : C = 0
      · subst h0
        have HN := Lib.hid (show ∀ m y, m < j + 1 → l[m]? = some y → chkV ty nu y = 0 from fun m y hm hy => by
          by_cases e : m = j
          · subst e; rw [HJ.out] at hy; obtain rfl := Option.some.inj hy; exact HC.out
          · exact HF.out m y (by omega) hy)
        go_wp2_with fail
        go_roundw
        case rel => exact ⟨j + 1, rfl, rfl, by go_num, hlt, hb3, HN.out⟩
        case measure => simp [intOf] <;> omega
      · have hd : ((C : Int) != 0) = true := ine_t (by omega)
        have HE := Lib.hid (HBAD.out C (((HH j _).out HJ.out (by rw [HC.out]; exact h0) (fun m y hm hy => HF.out m y hm hy)).trans HC.out) h0)
        clear h0 HH HM HF
        go_wp2_with fail
        go_ret2
        exact RetB.mk (by rw [HE.out.1, HE.out.2]; rfl) (HB1.out.trans (hb3.mono (Nat.le_succ _)))
    · have hall : ∀ x ∈ l, chkV ty nu x = 0 := fun x hx => by
        obtain ⟨m, hm, rfl⟩ := List.mem_iff_getElem.1 hx
        exact HF.out m _ (by omega) (List.getElem?_eq_getElem hm)
      have HG := Lib.hid (HGOOD.out (HM.out hall))
      have HVK := Lib.hid (HOK.out hall)
      have HB4 := Lib.hid (bstB_4 ty l)
      clear HH HM HF HBAD HGOOD HOK hall
      go_wp2_with fail
      go_loopw [9, 10] (fun sv kv w2 => ∃ k c : Nat, kv = .int .i64 (c : Int) ∧ c = k + 1 ∧ k ≤ 4 ∧ sv = .string (str (bstB ty l k)) ∧ Below (W.heap.size + 1) (W.alloc (.cells #[.string nm, .int .i64 ty, .int .i64 sc, .bool nu] 26)) w2) (fun _ kv _ => 5 - (intOf kv).toNat)
      case atStart => exact ⟨0, 1, rfl, rfl, by omega, rfl, hbel⟩
      case round =>
        clear hbel hsz
        obtain ⟨k, c5, rfl, hc5, hk, rfl, hbel⟩ := hrel
        have hsz := hbel.size
        rw [HS1.out] at hsz
        by_cases hk4 : k < 4
        · have HNO := Lib.hid (show uses ty (c5 : Int) = false → bstB ty l c5 = bstB ty l k from by rw [hc5]; exact bstB_no)
          have HYES := Lib.hid (show uses ty (c5 : Int) = true → (bstB ty l k = [] ∨ (buildB ty (c5 : Int) l).length < (bstB ty l k).length) → bstB ty l c5 = buildB ty (c5 : Int) l from by rw [hc5]; exact bstB_yes)
          have HOLD := Lib.hid (show bstB ty l k ≠ [] → ¬ (buildB ty (c5 : Int) l).length < (bstB ty l k).length → bstB ty l c5 = bstB ty l k from by rw [hc5]; exact bstB_old)
          have HUk := fun w => Lib.hid (HU (c5 : Int) w).out
          have HBk := fun w hr => Lib.hid (HBU c5 w (by omega) (by omega) hr HVK.out).out
          have hbl := build_le (typ := ty) (k := c5) hl HVK.out
          have HC5 := Lib.hid hc5
          have hdk : decide ((c5 : Int) ≤ 4) = true := decide_eq_true (by omega)
          have hw5 : wrap64 ((c5 : Int) + 1) = (c5 : Int) + 1 := by unfold wrap64; omega
          have hc54 : c5 ≤ 4 := by omega
          clear hc5
          generalize hS1 : bstB ty l c5 = S1 at *
          have HSX := Lib.hid hS1
          clear hS1
          generalize bstB ty l k = S0 at *
          generalize buildB ty (c5 : Int) l = T at *
          clear HBU
          obtain ⟨v0, v1, v2, v3⟩ := HV.out.below hbel (Nat.lt_succ_self _)
          have hs0 := str_size S0
          have hs1 := str_size T
          cases hu : uses ty (c5 : Int)
          · rw [hu] at HUk
            have HN := Lib.hid (HNO.out hu)
            clear hu
            go_wp2_with fail
            (with_reducible refine (HUk _).out.mono ?_); rintro e w5 ⟨rfl, hb5⟩
            go_wp2_with fail
            go_roundw
            case rel => exact ⟨c5, c5 + 1, by go_num, rfl, hc54, by rw [HSX.out, HN.out], hbel.trans (hb5.mono hsz)⟩
            case measure => simp [intOf] <;> omega
          · rw [hu] at HUk
            have HY := Lib.hid (HYES.out hu)
            clear hu HNO HYES
            go_wp2_with fail
            (with_reducible refine (HUk _).out.mono ?_); rintro e w5 ⟨rfl, hb5⟩
            have hbel5 := hbel.trans (hb5.mono hsz)
            have hr5 := HR.out.step (hbel5.mono (by rw [HS1.out]; exact Nat.le_refl _))
            obtain ⟨v0, v1, v2, v3⟩ := HV.out.below hbel5 (Nat.lt_succ_self _)
            have hsz5 := hbel5.size
            rw [HS1.out] at hsz5
            go_wp2_with fail
            (with_reducible refine (HBk _ hr5).out.mono ?_); rintro e w6 ⟨rfl, hb6⟩
            have hbel6 := hbel5.trans (hb6.mono hsz5)
            clear hr5 hbel5 hbel hb5 hb6 v0 v1 v2 v3 HUk HBk
            by_cases h0 : S0 = []
            · have HE := Lib.hid (HY.out (.inl h0))
              have e0 := str_is_nil h0
              have e00 := str_emp h0
              clear h0 HY HOLD
              go_wp2_with fail
              go_roundw
              case rel => exact ⟨c5, c5 + 1, by go_num, rfl, hc54, by rw [HSX.out, HE.out], hbel6⟩
              case measure => simp [intOf] <;> omega
            · have e0 := str_not_nil h0
              have e00 := str_fullC h0
              by_cases hlt2 : T.length < S0.length
              · have HE := Lib.hid (HY.out (.inr hlt2))
                have hd1 : decide ((str T).size < (str S0).size) = true := decide_eq_true (by omega)
                have hd2 : decide (((str T).size : Int) < ((str S0).size : Int)) = true := decide_eq_true (by omega)
                clear h0 HY HOLD hlt2 hs0 hs1
                go_wp2_with fail
                go_roundw
                case rel => exact ⟨c5, c5 + 1, by go_num, rfl, hc54, by rw [HSX.out, HE.out], hbel6⟩
                case measure => simp [intOf] <;> omega
              · have HE := Lib.hid (HOLD.out h0 hlt2)
                have hd1 : decide ((str T).size < (str S0).size) = false := decide_eq_false (by omega)
                have hd2 : decide (((str T).size : Int) < ((str S0).size : Int)) = false := decide_eq_false (by omega)
                clear h0 HY HOLD hlt2 hs0 hs1
                go_wp2_with fail
                go_roundw
                case rel => exact ⟨c5, c5 + 1, by go_num, rfl, hc54, by rw [HSX.out, HE.out], hbel6⟩
                case measure => simp [intOf] <;> omega
        · have hk5 : k = 4 := by omega
          subst hk5
          rw [HB4.out]
          clear HB4
          generalize str (bestB ty l) = S at *
          go_wp2
          go_ret2
          exact RetB.mk (by rw [HG.out.1, HG.out.2]; rfl) (HB1.out.trans (hbel.mono (Nat.le_succ _)))
end
end Go.Proofs.Ytbolbbngncnecaa
