/- The walks over package chunk: codecsOf, isType, slices.Contains, checkAll. -/
import Derived.Test.YtbolbbngncnecaaGreatChk7
import Derived.Test.YtbolbbngncnecaaGreatGD
import Derived.Test.YtbolbbngncnecaaGreatG6
namespace Go.CK
open Go.RowKit Go.VB Go.VarM Go.BP Go.RL Go.VS Go.VL Go.DI
/-- The codecs of a type. -/
def cds (typ : Int) : List Nat := if typ = 3 then [1, 3] else if okT typ then [1, 2, 4] else []
theorem cds_3 : cds 3 = [1, 3] := rfl
theorem cds_n {typ : Int} (h : typ = 1 ∨ typ = 2 ∨ typ = 4 ∨ typ = 5) : cds typ = [1, 2, 4] := by rcases h with rfl | rfl | rfl | rfl <;> rfl
theorem cds_o {typ : Int} (h : okT typ = false) : cds typ = [] := by
  unfold cds
  rw [if_neg (by rintro rfl; cases h), h]; rfl
theorem okT_o {typ : Int} (h1 : ¬ typ = 1) (h2 : ¬ typ = 2) (h3 : ¬ typ = 3) (h4 : ¬ typ = 4) (h5 : ¬ typ = 5) : okT typ = false := decide_eq_false (by omega)
theorem okT_five {typ : Int} (h : okT typ = true) : typ = 1 ∨ typ = 2 ∨ typ = 3 ∨ typ = 4 ∨ typ = 5 := by
  have := of_decide_eq_true h
  omega
theorem cds_len (typ : Int) : decide ((0 : Int) < ((cds typ).length : Int)) = okT typ := by
  cases h : okT typ with
  | false => rw [cds_o h]; rfl
  | true => rcases okT_five h with rfl | rfl | rfl | rfl | rfl <;> rfl
theorem cds_uses {typ : Int} (h : okT typ = true) (x : Nat) : (cds typ).any (fun n => n == x) = uses typ x := by
  unfold uses
  by_cases h3 : typ = 3
  · subst h3
    rw [cds_3, if_pos rfl]
    simp only [List.any_cons, List.any_nil, Bool.or_false]
    by_cases a : x = 1
    · subst a; rfl
    · by_cases b : x = 3
      · subst b; rfl
      · rw [beq_eq_false_iff_ne.2 (Ne.symm a), beq_eq_false_iff_ne.2 (Ne.symm b)]
        exact (decide_eq_false (by omega)).symm
  · rw [cds_n (by rcases okT_five h with h | h | h | h | h <;> omega), if_neg h3]
    simp only [List.any_cons, List.any_nil, Bool.or_false]
    by_cases a : x = 1
    · subst a; rfl
    · by_cases b : x = 2
      · subst b; rfl
      · by_cases c : x = 4
        · subst c; rfl
        · rw [beq_eq_false_iff_ne.2 (Ne.symm a), beq_eq_false_iff_ne.2 (Ne.symm b), beq_eq_false_iff_ne.2 (Ne.symm c)]
          exact (decide_eq_false (by omega)).symm
/-- It returns a list that can be read; what was there is as it was. -/
def RetRd {α : Type} (f : α → Value) (l : List α) (w : World) : Ending → World → Prop := fun en w' => ∃ v, en = .returned v ∧ RdV f w' w'.heap.size v l ∧ Below w.heap.size w w'
theorem RetRd.mk {α : Type} {f : α → Value} {l : List α} {w w' : World} {x v : Value} (hx : x = v) (hr : RdV f w' w'.heap.size v l) (hb : Below w.heap.size w w') : RetRd f l w (.returned x) w' := ⟨v, by rw [hx], hr, hb⟩
/-- It returns a place, not below 0 if and only if p. -/
def IxP (p : Bool) (w : World) : Ending → World → Prop := fun en w' => ∃ r : Int, en = .returned (.int .i64 r) ∧ decide (0 ≤ r) = p ∧ Below w.heap.size w w'
theorem IxP.mk {p : Bool} {w w' : World} {x : Value} {r : Int} (hx : x = .int .i64 r) (hp : decide (0 ≤ r) = p) (hb : Below w.heap.size w w') : IxP p w (.returned x) w' := ⟨r, by rw [hx], hp, hb⟩
theorem any_hit {l : List Nat} {x j : Nat} (h : l[j]? = some x) : l.any (fun n => n == x) = true := by
  rw [List.any_eq_true]
  exact ⟨x, List.mem_of_getElem? h, beq_self_eq_true _⟩
theorem any_miss {l : List Nat} {x : Nat} (h : ∀ m, m < l.length → l[m]? ≠ some x) : l.any (fun n => n == x) = false := by
  rw [List.any_eq_false]
  intro y hy e
  obtain ⟨m, hm, rfl⟩ := List.mem_iff_getElem.1 hy
  exact h m hm (by rw [List.getElem?_eq_getElem hm]; exact congrArg some (eq_of_beq e))
end Go.CK
namespace Go.Proofs.YtbolbbngncnecaaGreat
open Go.RowKit Go.VB Go.VarM Go.BP Go.RL Go.VS Go.VL Go.DI Go.CK
theorem Tryz.sizeVal : (Tryz.prog.info? 42).map (·.size) = some 3 := by kernel_rfl
theorem Tryz.sizeColC : (Tryz.prog.info? 24).map (·.size) = some 4 := by kernel_rfl
set_option maxRecDepth 100000 in
set_option maxHeartbeats 1000000 in
theorem codecs_any (typ : Int) (w : World) : Calls Tryz.prog 47 #[.int .i64 typ] w (RetRd nI (cds typ) w) := by
  by_cases h3 : typ = 3
  · subst h3
    have hr := RdV.lit nI w [1, 3] 2 3 (by decide) (by decide)
    have HR := Lib.hid (hr.more (B' := (w.alloc (.cells (([1, 3] : List Nat).map nI).toArray 3)).heap.size) (by simp))
    clear hr
    go_enter Tryz.func47, Tryz.ntmps47
    go_wp2
    go_ret
    exact RetRd.mk rfl HR.out ((Below.refl _ _).alloc (Nat.le_refl _) _)
  have e3 := ieq_f h3
  by_cases h1 : typ = 1
  · subst h1
    have hr := RdV.lit nI w [1, 2, 4] 3 3 (by decide) (by decide)
    have HR := Lib.hid (hr.more (B' := (w.alloc (.cells (([1, 2, 4] : List Nat).map nI).toArray 3)).heap.size) (by simp))
    clear hr
    go_enter Tryz.func47, Tryz.ntmps47
    go_wp2
    go_ret
    exact RetRd.mk rfl HR.out ((Below.refl _ _).alloc (Nat.le_refl _) _)
  have e1 := ieq_f h1
  by_cases h2 : typ = 2
  · subst h2
    have hr := RdV.lit nI w [1, 2, 4] 3 3 (by decide) (by decide)
    have HR := Lib.hid (hr.more (B' := (w.alloc (.cells (([1, 2, 4] : List Nat).map nI).toArray 3)).heap.size) (by simp))
    clear hr
    go_enter Tryz.func47, Tryz.ntmps47
    go_wp2
    go_ret
    exact RetRd.mk rfl HR.out ((Below.refl _ _).alloc (Nat.le_refl _) _)
  have e2 := ieq_f h2
  by_cases h4 : typ = 4
  · subst h4
    have hr := RdV.lit nI w [1, 2, 4] 3 3 (by decide) (by decide)
    have HR := Lib.hid (hr.more (B' := (w.alloc (.cells (([1, 2, 4] : List Nat).map nI).toArray 3)).heap.size) (by simp))
    clear hr
    go_enter Tryz.func47, Tryz.ntmps47
    go_wp2
    go_ret
    exact RetRd.mk rfl HR.out ((Below.refl _ _).alloc (Nat.le_refl _) _)
  have e4 := ieq_f h4
  by_cases h5 : typ = 5
  · subst h5
    have hr := RdV.lit nI w [1, 2, 4] 3 3 (by decide) (by decide)
    have HR := Lib.hid (hr.more (B' := (w.alloc (.cells (([1, 2, 4] : List Nat).map nI).toArray 3)).heap.size) (by simp))
    clear hr
    go_enter Tryz.func47, Tryz.ntmps47
    go_wp2
    go_ret
    exact RetRd.mk rfl HR.out ((Below.refl _ _).alloc (Nat.le_refl _) _)
  have e5 := ieq_f h5
  rw [cds_o (okT_o h1 h2 h3 h4 h5)]
  clear h1 h2 h3 h4 h5
  go_enter Tryz.func47, Tryz.ntmps47
  go_wp2
  go_ret
  exact RetRd.mk rfl (RdV.nil _ _ _) (Below.refl _ _)
set_option maxRecDepth 100000 in
set_option maxHeartbeats 1000000 in
theorem cisType_any (typ : Int) (w : World) : Calls Tryz.prog 27 #[.int .i64 typ] w (RetB (.bool (okT typ)) w) := by
  have HC := fun w => Lib.hid (codecs_any typ w)
  have hd : decide (0 < (cds typ).length) = okT typ := by rw [← cds_len typ]; exact decide_eq_decide.2 (by omega)
  generalize cds typ = l at *
  generalize okT typ = b at *
  go_enter Tryz.func27, Tryz.ntmps27
  go_wp2_with fail
  refine (HC _).out.mono ?_; rintro e w1 ⟨v, rfl, hr, hb⟩
  obtain ⟨A, c, rfl, h1, h2, -⟩ := hr
  clear h1 h2 HC
  go_wp2
  go_ret
  exact RetB.mk rfl hb
set_option maxRecDepth 100000 in
set_option maxHeartbeats 1000000 in
theorem index_any (v : Value) (l : List Nat) (x : Nat) (w : World) (hr : RdV nI w w.heap.size v l) : Calls Tryz.prog 81 #[v, .int .i64 (x : Int)] w (IxP (l.any fun n => n == x) w) := by
  obtain ⟨A, c, _, rfl, rfl, hc1, hc2⟩ := hr.bds
  have HR := Lib.hid hr; clear hr
  have HH := fun j => Lib.hid (any_hit (l := l) (x := x) (j := j))
  have HM := Lib.hid (any_miss (l := l) (x := x))
  generalize l.any (fun n => n == x) = B at *
  go_enter Tryz.func81, Tryz.ntmps81
  go_wp2
  go_loopw [4, 5, 8] (fun r _ i wr => ∃ j : Nat, r = .int .i64 0 ∧ i = .int .i64 j ∧ j ≤ l.length ∧ Below w.heap.size w wr ∧ ∀ m, m < j → l[m]? ≠ some x) (fun _ _ i _ => l.length - (intOf i).toNat)
  case atStart => exact ⟨0, rfl, rfl, Nat.zero_le _, Below.refl _ _, fun m h => absurd h (Nat.not_lt_zero _)⟩
  case round =>
    obtain ⟨j, rfl, rfl, hj, hbel, hf⟩ := hrel
    have HF := Lib.hid hf; clear hf
    by_cases hlt : j < l.length
    · have hlj : l[j]? = some l[j] := List.getElem?_eq_getElem hlt
      obtain ⟨ad, rfl, _, hg0⟩ := (HR.out.below hbel).at hlj
      have HJ := Lib.hid hlj; clear hlj
      generalize l[j] = y at hg0 HJ
      have hg : wr.cell? (ad.add j) = some (.int .i64 (y : Int)) := hg0
      clear hg0
      by_cases he : y = x
      · subst he
        have HB := Lib.hid ((HH j).out HJ.out)
        have hd : ((y : Int) == (y : Int)) = true := beq_self_eq_true _
        clear HH HM HR HF
        go_wp2_with fail
        go_ret
        exact IxP.mk rfl (by rw [HB.out]; exact decide_eq_true (by omega)) hbel
      · have hd : ((x : Int) == (y : Int)) = false := beq_eq_false_iff_ne.2 (by omega)
        have HN := Lib.hid (show ∀ m, m < j + 1 → l[m]? ≠ some x from fun m hm => by
          by_cases e : m = j
          · subst e; rw [HJ.out]; intro h; exact he (Option.some.inj h)
          · exact HF.out m (by omega))
        clear he
        go_wp2_with fail
        go_roundw
        case rel => exact ⟨j + 1, rfl, by go_num, hlt, hbel, HN.out⟩
        case measure => simp [intOf] <;> omega
    · have HB := Lib.hid (HM.out (fun m hm => HF.out m (by omega)))
      clear HH HM HR HF
      go_wp2
      go_ret
      exact IxP.mk rfl (by rw [HB.out]; rfl) hbel
set_option maxRecDepth 100000 in
set_option maxHeartbeats 1000000 in
theorem contains_any (v : Value) (l : List Nat) (x : Nat) (w : World) (hr : RdV nI w w.heap.size v l) : Calls Tryz.prog 55 #[v, .int .i64 (x : Int)] w (RetB (.bool (l.any fun n => n == x)) w) := by
  have HI := Lib.hid (index_any v l x w hr)
  obtain ⟨A, c, _, rfl, rfl, hc1, hc2⟩ := hr.bds
  clear hr
  generalize l.any (fun n => n == x) = B at *
  go_enter Tryz.func55, Tryz.ntmps55
  go_wp2_with fail
  refine HI.out.mono ?_; rintro e w1 ⟨r, rfl, hd, hb⟩
  go_wp2
  go_ret
  exact RetB.mk rfl hb
set_option maxRecDepth 100000 in
set_option maxHeartbeats 2000000 in
theorem checkAll_any (nm : ByteArray) (ty sc : Int) (nu : Bool) (v : Value) (l : List Vl) (W : World) (hr : RdL W W.heap.size v l) :
    Calls Tryz.prog 28 #[(.agg #[.string nm, .int .i64 ty, .int .i64 sc, .bool nu]), v] W (RetB (.int .i64 (firstE ty nu l : Nat)) W) := by
  obtain ⟨A, c, _, rfl, rfl, hc1, hc2⟩ := hr.bds
  have HR := Lib.hid hr; clear hr
  have HV := Lib.hid (Var4.new W (.string nm) (.int .i64 ty) (.int .i64 sc) (.bool nu) 24)
  have HB1 := Lib.hid ((Below.refl W.heap.size W).alloc (Nat.le_refl _) (.cells #[.string nm, .int .i64 ty, .int .i64 sc, .bool nu] 24))
  have HS1 := Lib.hid (show (W.alloc (.cells #[.string nm, .int .i64 ty, .int .i64 sc, .bool nu] 24)).heap.size = W.heap.size + 1 from by simp)
  have HH := fun i x => Lib.hid (firstE_hit (typ := ty) (nu := nu) (l := l) (i := i) (x := x))
  have HM := Lib.hid (firstE_none (typ := ty) (nu := nu) (l := l))
  generalize firstE ty nu l = E at *
  go_enter Tryz.func28, Tryz.ntmps28
  go_wp2
  go_loopw [4, 6, 7, 10] (fun r _ _ i wr => ∃ j : Nat, r = .int .i64 0 ∧ i = .int .i64 j ∧ j ≤ l.length ∧ Below (W.heap.size + 1) (W.alloc (.cells #[.string nm, .int .i64 ty, .int .i64 sc, .bool nu] 24)) wr ∧ ∀ m y, m < j → l[m]? = some y → chkV ty nu y = 0) (fun _ _ _ i _ => l.length - (intOf i).toNat)
  case atStart => exact ⟨0, rfl, rfl, Nat.zero_le _, Below.refl _ _, fun m y h => absurd h (Nat.not_lt_zero _)⟩
  case round =>
    obtain ⟨j, rfl, rfl, hj, hbel, hf⟩ := hrel
    have HF := Lib.hid hf; clear hf
    have hbW : Below W.heap.size W wr := HB1.out.trans (hbel.mono (Nat.le_succ _))
    have hsz := hbel.size
    rw [HS1.out] at hsz
    by_cases hlt : j < l.length
    · have hlj : l[j]? = some l[j] := List.getElem?_eq_getElem hlt
      obtain ⟨ad, rfl, _, q0, q1, q2⟩ := (HR.out.below hbW).at hlj
      have HJ := Lib.hid hlj; clear hlj
      generalize l[j] = X at q0 q1 q2 HJ
      obtain ⟨xb, xn, xs⟩ := X
      simp only at q0 q1 q2
      obtain ⟨v0, v1, v2, v3⟩ := HV.out.below (hbel.alloc hsz (.cells #[.bool xb, .int .i64 xn, .string xs] 42)) (Nat.lt_succ_self _)
      have hbv := hbel.alloc hsz (.cells #[.bool xb, .int .i64 xn, .string xs] 42)
      have hsv : (wr.alloc (.cells #[.bool xb, .int .i64 xn, .string xs] 42)).heap.size = wr.heap.size + 1 := by simp
      have HBV := Lib.hid hbv; have HSV := Lib.hid hsv; clear hbv hsv
      go_wp2_with fail
      refine (chk_any nm ty sc nu xb xn xs _).mono ?_; rintro e w2 ⟨rfl, hb2⟩
      have hb3 := HBV.out.trans (hb2.mono (by rw [HSV.out]; omega))
      obtain ⟨C, hC⟩ : ∃ C, chkV ty nu ⟨xb, xn, xs⟩ = C := ⟨_, rfl⟩
      have hC' : chk ty nu xb xn xs = C := hC
      rw [hC']
      have HC := Lib.hid hC
      clear hC hC' hb2 HBV q0 q1 q2 v0 v1 v2 v3
      by_cases h0 : C = 0
      · subst h0
        have HN := Lib.hid (show ∀ m y, m < j + 1 → l[m]? = some y → chkV ty nu y = 0 from fun m y hm hy => by
          by_cases e : m = j
          · subst e; rw [HJ.out] at hy; obtain rfl := Option.some.inj hy; exact HC.out
          · exact HF.out m y (by omega) hy)
        go_wp2_with fail
        go_roundw
        case rel => exact ⟨j + 1, rfl, by go_num, hlt, hb3, HN.out⟩
        case measure => simp [intOf] <;> omega
      · have hd : ((C : Int) != 0) = true := ine_t (by omega)
        have HE := Lib.hid (((HH j _).out HJ.out (by rw [HC.out]; exact h0) (fun m y hm hy => HF.out m y hm hy)).trans HC.out)
        clear h0 HH HM HF
        go_wp2_with fail
        go_ret
        exact RetB.mk (by rw [HE.out]; rfl) (HB1.out.trans (hb3.mono (Nat.le_succ _)))
    · have HE := Lib.hid (HM.out (fun x hx => by
        obtain ⟨m, hm, rfl⟩ := List.mem_iff_getElem.1 hx
        exact HF.out m _ (by omega) (List.getElem?_eq_getElem hm)))
      clear HH HM HF
      go_wp2
      go_ret
      exact RetB.mk (by rw [HE.out]; rfl) hbW
end Go.Proofs.YtbolbbngncnecaaGreat
