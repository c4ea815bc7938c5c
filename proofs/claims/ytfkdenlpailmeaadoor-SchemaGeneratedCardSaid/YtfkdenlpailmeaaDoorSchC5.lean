/- The walk over Parse. -/
import Derived.Test.YtfkdenlpailmeaaDoorSchC4
namespace Go.SC
open Go.RowKit Go.VB Go.VL
/-- It returns what Parse is to return. -/
def PRS (T : TypeId) (R : PS) (w : World) : Ending → World → Prop := fun e w' => Below w.heap.size w w' ∧
  ∃ v, e = .returned (.tuple #[.agg #[v, .int .i64 R.key], .int .i64 (R.line : Int), .int .i64 (R.e : Int)]) ∧ OwnC T w' w.heap.size v R.cs
theorem PRS.none {T : TypeId} {R : PS} {w w' : World} {v : Value} {k e : Nat} (h : R = ⟨[], 0, k, e⟩) (hv : v = .tuple #[.agg #[.slice none 0 0, .int .i64 0], .int .i64 (k : Int), .int .i64 (e : Int)]) (hb : Below w.heap.size w w') : PRS T R w (.returned v) w' := by
  subst h; exact ⟨hb, _, by rw [hv], OwnC.nil _ _ _⟩
theorem PRS.some {T : TypeId} {R : PS} {w w' : World} {x v : Value} {cs : List Col} {key : Int} (h : R = ⟨cs, key, 0, 0⟩) (hv : x = .tuple #[.agg #[v, .int .i64 key], .int .i64 0, .int .i64 0]) (ho : OwnC T w' w.heap.size v cs) (hb : Below w.heap.size w w') : PRS T R w (.returned x) w' := by
  subst h; exact ⟨hb, _, by rw [hv]; rfl, ho⟩
theorem Var2.set {w : World} {b : Nat} {x y : Value} (h : Var2 w b x y) (x' y' : Value) : Var2 ((w.setCell ⟨b, 0, none⟩ x').setCell ⟨b, 1, none⟩ y') b x' y' := by
  constructor
  · rw [World.cell?_setCell_other _ _ _ _ (by simp)]; exact World.cell?_setCell_same _ _ _ h.c0
  · exact World.cell?_setCell_same _ _ _ ((World.cell?_setCell_other _ _ _ _ (by simp)).trans h.c1)
  · rw [World.frozen?_setCell, World.frozen?_setCell]; exact h.f0
  · rw [World.frozen?_setCell, World.frozen?_setCell]; exact h.f1
theorem Var2.set1 {w : World} {b : Nat} {x y : Value} (h : Var2 w b x y) (y' : Value) : Var2 (w.setCell ⟨b, 1, none⟩ y') b x y' := by
  constructor
  · rw [World.cell?_setCell_other _ _ _ _ (by simp)]; exact h.c0
  · exact World.cell?_setCell_same _ _ _ h.c1
  · rw [World.frozen?_setCell]; exact h.f0
  · rw [World.frozen?_setCell]; exact h.f1
theorem set2_below {B : Nat} {w0 w : World} {b : Nat} (h : Below B w0 w) (hB : B ≤ b) (x y : Value) : Below B w0 ((w.setCell ⟨b, 0, none⟩ x).setCell ⟨b, 1, none⟩ y) :=
  (h.setCell (p := ⟨b, 0, none⟩) hB x).setCell (p := ⟨b, 1, none⟩) hB y
theorem OwnC.set2 {T : TypeId} {w : World} {base b : Nat} {v : Value} {cs : List Col} (h : OwnC T w base v cs) (hb : b < base) (x y : Value) : OwnC T ((w.setCell ⟨b, 0, none⟩ x).setCell ⟨b, 1, none⟩ y) base v cs :=
  ownsRow_setCell_below (ownsRow_setCell_below h (a := ⟨b, 0, none⟩) hb x) (a := ⟨b, 1, none⟩) hb y
theorem prs_bad {l : List UInt8} {k : Nat} (h : l.length ≤ 65536) (h2 : plr (lns l).2 (lns l).1 [] 0 = .bad k) : prsS l = ⟨[], 0, k, 2⟩ := by
  unfold prsS; rw [if_neg (by omega), h2]; rfl
theorem prs_ok {l n : List UInt8} {cs : List Col} {k : Nat} (h : l.length ≤ 65536) (h2 : plr (lns l).2 (lns l).1 [] 0 = .ok cs n k) :
    prsS l = if fnd cs (str n) < 0 then ⟨[], 0, k, 3⟩ else if chkS cs (fnd cs (str n)) ≠ 0 then ⟨[], 0, 0, chkS cs (fnd cs (str n))⟩ else ⟨cs, fnd cs (str n), 0, 0⟩ := by
  unfold prsS; rw [if_neg (by omega), h2]; rfl
end Go.SC
namespace Go.Proofs.YtfkdenlpailmeaaDoor
open Go.RowKit Go.VB Go.VL Go.SC
set_option linter.constructorNameAsVariable false
set_option maxRecDepth 100000 in
set_option maxHeartbeats 8000000 in
theorem parse_any (l : List UInt8) (W : World) : Calls Tryd.prog 8 #[.string (str l)] W (PRS 32 (prsS l) W) := by
  have hV := Var2.new W (.slice none 0 0) (.int .i64 0) 24
  have hB : Below W.heap.size W (W.alloc (.cells #[.slice none 0 0, .int .i64 0] 24)) := (Below.refl _ _).alloc (Nat.le_refl _) _
  have hS := size_of l
  by_cases hz : 65536 < l.length
  · have hE : Hid (prsS l = ⟨[], 0, 0, 7⟩) := Lib.hid (by unfold prsS; rw [if_pos hz])
    have hz' : 65536 < (str l).size := by rw [hS]; exact hz
    have hd : decide (65536 < ((str l).size : Int)) = true := decide_eq_true (by omega)
    clear hz hS hz'
    clear hV
    generalize str l = S at *
    go_enter Tryd.func8, Tryd.ntmps8
    go_wp2_with fail
    refine bodyPost_ret (v := .tuple #[.agg #[.slice none 0 0, .int .i64 0], .int .i64 0, .int .i64 7]) (by simp [results, Tryd.results8, go_sem]) rfl ?_
    exact PRS.none hE.out rfl hB
  have hle : l.length ≤ 65536 := by omega
  have HL := fun w => Lib.hid (parseLines_any l w hle)
  have hzz : (str l).size ≤ 65536 := by rw [hS]; exact hle
  obtain ⟨R, hR⟩ : ∃ R, plr (lns l).2 (lns l).1 [] 0 = R := ⟨_, rfl⟩
  rw [hR] at HL
  cases R with
  | bad k =>
    have hE := Lib.hid (prs_bad hle hR)
    clear hz hS hle hR
    generalize str l = S at *
    go_enter Tryd.func8, Tryd.ntmps8
    go_wp2_with fail
    refine (HL _).out.mono ?_
    rintro e w1 ⟨hb, rfl⟩
    replace hB := bel_trans hB hb
    replace hV := hV.step hb
    clear HL hb
    have hVs := hV.set (.slice none 0 0) (.int .i64 0)
    have hBs := set2_below hB (Nat.le_refl _) (.slice none 0 0) (.int .i64 0)
    obtain ⟨c0, c1, f0, f1⟩ := hV
    go_wp2_with fail
    generalize (w1.setCell ⟨W.heap.size, 0, none⟩ (.slice none 0 0)).setCell ⟨W.heap.size, 1, none⟩ (.int .i64 0) = w9 at *
    obtain ⟨m0, m1, _, _⟩ := hVs
    refine bodyPost_ret (v := .tuple #[.agg #[.slice none 0 0, .int .i64 0], .int .i64 (k : Int), .int .i64 2]) (by simp [results, Tryd.results8, go_sem, m0, m1]) rfl ?_
    exact PRS.none hE.out rfl hBs
  | ok cs nm k =>
    have hE := Lib.hid (prs_ok hle hR)
    have HF := fun v (w : World) (h : RdC w w.heap.size v cs) => Lib.hid (find_any cs v 0 (str nm) w h)
    have HC := fun v key (w : World) (h : RdC w w.heap.size v cs) => Lib.hid (check_any cs v key w h)
    clear hz hS hle hR
    generalize str l = S at *
    generalize prsS l = PR at *
    have hX0 : Hid ((W.alloc (.cells #[.slice none 0 0, .int .i64 0] 24)).heap.size = W.heap.size + 1) := Lib.hid (by simp)
    go_enter Tryd.func8, Tryd.ntmps8
    go_wp2_with fail
    refine (HL _).out.mono ?_
    rintro e w1 ⟨hb, v, rfl, ho⟩
    generalize str nm = X at *
    rw [hX0.out] at ho
    obtain ⟨A, cap, rfl, _, _, _⟩ := ho.read
    replace hB := bel_trans hB hb
    replace hV := hV.step hb
    clear HL hb hX0
    have hVs := Var2.new w1 (.slice A cs.length cap) (.int .i64 0) 24
    have hb2 : Below w1.heap.size w1 (w1.alloc (.cells #[.slice A cs.length cap, .int .i64 0] 24)) := (Below.refl _ _).alloc (Nat.le_refl _) _
    have hV2 := hV.step hb2
    have ho2 := ho.below hb2
    have hB2 := bel_trans hB hb2
    obtain ⟨l0, l1, g0, g1⟩ := hVs
    go_wp2_with fail
    have HFc := Lib.hid (HF _ _ ho2.read).out
    clear HF
    generalize hg : w1.heap.size = g at *
    generalize w1.alloc (.cells #[.slice A cs.length cap, .int .i64 0] 24) = w2 at *
    with_reducible refine HFc.out.mono ?_
    rintro e w3 ⟨rfl, hb3⟩
    have hgs : g ≤ w2.heap.size := by have := (Var2.lt (w := w2) (b := g) ⟨l0, l1, g0, g1⟩); omega
    have hb13 : Below g w1 w3 := hb2.trans (hb3.mono hgs)
    have hV3 := hV2.step hb3
    have hVS3 := Var2.step (w := w2) (b := g) ⟨l0, l1, g0, g1⟩ hb3
    have hB3 := bel_trans hB2 hb3
    clear l0 l1 g0 g1 hV2 ho2 hB2 HFc hb2 hb3 hgs
    obtain ⟨F, hF⟩ : ∃ F, fnd cs X = F := ⟨_, rfl⟩
    rw [hF] at hE ⊢
    clear hF
    have hVS4 := hVS3.set1 (.int .i64 F)
    have hlt := hV.lt
    have hb14 : Below g w1 (w3.setCell ⟨g, 1, none⟩ (.int .i64 F)) := hb13.setCell (p := ⟨g, 1, none⟩) (Nat.le_refl g) _
    have ho4 := ho.below (show Below w1.heap.size w1 _ by rw [hg]; exact hb14)
    have hV4 := hV.below (show Below w1.heap.size w1 _ by rw [hg]; exact hb14) hlt
    have hB4 : Below W.heap.size W (w3.setCell ⟨g, 1, none⟩ (.int .i64 F)) := hB3.setCell (p := ⟨g, 1, none⟩) (by show W.heap.size ≤ g; omega) _
    obtain ⟨l0, l1, g0, g1⟩ := hVS3
    clear hb13 hb14 hB3 hV3 hV hB ho
    by_cases hF0 : F < 0
    · have hd : decide (F < 0) = true := decide_eq_true hF0
      have hE2 := Lib.hid (hE.out.trans (if_pos hF0))
      have hVs := hV4.set (.slice none 0 0) (.int .i64 0)
      have hBs := set2_below hB4 (Nat.le_refl _) (.slice none 0 0) (.int .i64 0)
      obtain ⟨q0, q1, q2, q3⟩ := hV4
      obtain ⟨l0', l1', _, _⟩ := hVS4
      clear hE HC hF0
      go_wp2_with fail
      generalize ((w3.setCell ⟨g, 1, none⟩ (.int .i64 F)).setCell ⟨W.heap.size, 0, none⟩ (.slice none 0 0)).setCell ⟨W.heap.size, 1, none⟩ (.int .i64 0) = w9 at *
      obtain ⟨m0, m1, _, _⟩ := hVs
      refine bodyPost_ret (v := .tuple #[.agg #[.slice none 0 0, .int .i64 0], .int .i64 (k : Int), .int .i64 3]) (by simp [results, Tryd.results8, go_sem, m0, m1]) rfl ?_
      exact PRS.none hE2.out rfl hBs
    · have hd : decide (F < 0) = false := decide_eq_false hF0
      have hE2 := Lib.hid (hE.out.trans (if_neg hF0))
      have HCc := Lib.hid (HC _ F _ ho4.read).out
      have hVS4' := hVS4
      obtain ⟨l0', l1', _, _⟩ := hVS4
      clear hE HC hF0
      go_wp2_with fail
      clear l0 l1 g0 g1 l0' l1'
      generalize w3.setCell ⟨g, 1, none⟩ (.int .i64 F) = w4 at *
      with_reducible refine HCc.out.mono ?_
      rintro e w6 ⟨rfl, hb6⟩
      have hB6 := bel_trans hB4 hb6
      have hV6 := hV4.step hb6
      have hVS6 := hVS4'.step hb6
      have ho6 := ho4.below hb6
      clear HCc hB4 hV4 hVS4' ho4 hb6
      obtain ⟨l0, l1, _, _⟩ := hVS6
      by_cases he : chkS cs F = 0
      · have hE3 := Lib.hid (hE2.out.trans (if_neg (fun h => h he)))
        have hd2 : ((chkS cs F : Int) != 0) = false := ine_f (by omega)
        have hVs := hV6.set (.slice A cs.length cap) (.int .i64 F)
        have hBs := set2_below hB6 (Nat.le_refl _) (.slice A cs.length cap) (.int .i64 F)
        have hos := ho6.set2 (Nat.lt_succ_self W.heap.size) (.slice A cs.length cap) (.int .i64 F)
        obtain ⟨q0, q1, q2, q3⟩ := hV6
        clear hE2 he ho6
        generalize chkS cs F = E at *
        go_wp2_with fail
        generalize (w6.setCell ⟨W.heap.size, 0, none⟩ (.slice A cs.length cap)).setCell ⟨W.heap.size, 1, none⟩ (.int .i64 F) = w9 at *
        obtain ⟨m0, m1, _, _⟩ := hVs
        refine bodyPost_ret (v := .tuple #[.agg #[.slice A cs.length cap, .int .i64 F], .int .i64 0, .int .i64 0]) (by simp [results, Tryd.results8, go_sem, m0, m1]) rfl ?_
        exact PRS.some hE3.out rfl (hos.lower (Nat.le_succ _)) hBs
      · have hE3 := Lib.hid (hE2.out.trans (if_pos he))
        have hd2 : ((chkS cs F : Int) != 0) = true := ine_t (by omega)
        have hVs := hV6.set (.slice none 0 0) (.int .i64 0)
        have hBs := set2_below hB6 (Nat.le_refl _) (.slice none 0 0) (.int .i64 0)
        obtain ⟨q0, q1, q2, q3⟩ := hV6
        clear hE2 he ho6
        generalize chkS cs F = E at *
        go_wp2_with fail
        generalize (w6.setCell ⟨W.heap.size, 0, none⟩ (.slice none 0 0)).setCell ⟨W.heap.size, 1, none⟩ (.int .i64 0) = w9 at *
        obtain ⟨m0, m1, _, _⟩ := hVs
        refine bodyPost_ret (v := .tuple #[.agg #[.slice none 0 0, .int .i64 0], .int .i64 0, .int .i64 (E : Int)]) (by simp [results, Tryd.results8, go_sem, m0, m1]) rfl ?_
        exact PRS.none hE3.out rfl hBs
end Go.Proofs.YtfkdenlpailmeaaDoor
