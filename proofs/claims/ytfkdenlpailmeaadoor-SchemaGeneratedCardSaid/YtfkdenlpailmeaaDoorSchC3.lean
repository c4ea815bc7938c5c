/- The walks over parseType and parseColumn. -/
import Derived.Test.YtfkdenlpailmeaaDoorSchC2
namespace Go.SC
open Go.RowKit Go.VB Go.VL
theorem okTS_zero {ty : Int} (h : okT ty = true) (h5 : ty ≠ 5) : okTS ty 0 := ⟨h, fun e => absurd e h5, fun _ => rfl⟩
theorem okTS_five {n : Nat} (h : n < 100) : okTS 5 (n : Int) := ⟨by decide, fun _ => ⟨by omega, by omega⟩, fun e => absurd rfl e⟩
/-- A variable of four cells in block b, which can be written. -/
structure Var4F (w : World) (b : Nat) (x y z u : Value) : Prop where
  c0 : w.cell? ⟨b, 0, none⟩ = some x
  c1 : w.cell? ⟨b, 1, none⟩ = some y
  c2 : w.cell? ⟨b, 2, none⟩ = some z
  c3 : w.cell? ⟨b, 3, none⟩ = some u
  f0 : w.frozen? ⟨b, 0, none⟩ = false
  f1 : w.frozen? ⟨b, 1, none⟩ = false
  f2 : w.frozen? ⟨b, 2, none⟩ = false
  f3 : w.frozen? ⟨b, 3, none⟩ = false
theorem Var4F.new (w : World) (x y z u : Value) (T : TypeId) : Var4F (w.alloc (.cells #[x, y, z, u] T)) w.heap.size x y z u := by
  constructor <;> simp
theorem Var4F.lt {w : World} {b : Nat} {x y z u : Value} (h : Var4F w b x y z u) : b < w.heap.size := World.block_lt_of_cell? w _ h.c0
theorem Var4F.below {w w' : World} {b B : Nat} {x y z u : Value} (h : Var4F w b x y z u) (hb : Below B w w') (hB : b < B) : Var4F w' b x y z u := by
  constructor
  · rw [hb.cell hB]; exact h.c0
  · rw [hb.cell hB]; exact h.c1
  · rw [hb.cell hB]; exact h.c2
  · rw [hb.cell hB]; exact h.c3
  · rw [hb.frozen hB]; exact h.f0
  · rw [hb.frozen hB]; exact h.f1
  · rw [hb.frozen hB]; exact h.f2
  · rw [hb.frozen hB]; exact h.f3
theorem Var4F.step {w w' : World} {b : Nat} {x y z u : Value} (h : Var4F w b x y z u) (hb : Below w.heap.size w w') : Var4F w' b x y z u := h.below hb h.lt
theorem Var4F.set {w : World} {b : Nat} {x y z u : Value} (h : Var4F w b x y z u) (x' y' z' u' : Value) :
    Var4F ((((w.setCell ⟨b, 0, none⟩ x').setCell ⟨b, 1, none⟩ y').setCell ⟨b, 2, none⟩ z').setCell ⟨b, 3, none⟩ u') b x' y' z' u' := by
  have s1 := World.cell?_setCell_same w ⟨b, 0, none⟩ x' h.c0
  have k : ∀ (w : World) (i j : Nat) (v : Value), i ≠ j → (w.setCell ⟨b, i, none⟩ v).cell? ⟨b, j, none⟩ = w.cell? ⟨b, j, none⟩ := fun w i j v hij => World.cell?_setCell_other _ _ _ _ (fun e => hij (congrArg Addr.off e))
  constructor
  · rw [k _ 3 0 _ (by decide), k _ 2 0 _ (by decide), k _ 1 0 _ (by decide)]; exact World.cell?_setCell_same _ _ _ h.c0
  · rw [k _ 3 1 _ (by decide), k _ 2 1 _ (by decide)]; exact World.cell?_setCell_same _ _ _ ((k _ 0 1 _ (by decide)).trans h.c1)
  · rw [k _ 3 2 _ (by decide)]; exact World.cell?_setCell_same _ _ _ ((k _ 1 2 _ (by decide)).trans ((k _ 0 2 _ (by decide)).trans h.c2))
  · exact World.cell?_setCell_same _ _ _ ((k _ 2 3 _ (by decide)).trans ((k _ 1 3 _ (by decide)).trans ((k _ 0 3 _ (by decide)).trans h.c3)))
  all_goals
    simp only [World.frozen?_setCell]
    first | exact h.f0 | exact h.f1 | exact h.f2 | exact h.f3
theorem set4_below {B : Nat} {w0 w : World} {b : Nat} (h : Below B w0 w) (hB : B ≤ b) (x y z u : Value) : Below B w0 ((((w.setCell ⟨b, 0, none⟩ x).setCell ⟨b, 1, none⟩ y).setCell ⟨b, 2, none⟩ z).setCell ⟨b, 3, none⟩ u) :=
  (((h.setCell (p := ⟨b, 0, none⟩) hB x).setCell (p := ⟨b, 1, none⟩) hB y).setCell (p := ⟨b, 2, none⟩) hB z).setCell (p := ⟨b, 3, none⟩) hB u
/-- A column and whether the line is one; what was there is as it was. -/
def PCol (l : List UInt8) (w : World) : Ending → World → Prop := fun e w' => Below w.heap.size w w' ∧
  ((∃ c, isCol l c ∧ e = .returned (.tuple #[c.val, .bool true])) ∨ ((¬ ∃ c, isCol l c) ∧ e = .returned (.tuple #[col0.val, .bool false])))
theorem PCol.yes {l : List UInt8} {c : Col} {w w' : World} {v : Value} (h : isCol l c) (hv : v = .tuple #[c.val, .bool true]) (hb : Below w.heap.size w w') : PCol l w (.returned v) w' := ⟨hb, .inl ⟨c, h, by rw [hv]⟩⟩
theorem PCol.no {l : List UInt8} {w w' : World} {v : Value} (h : ¬ ∃ c, isCol l c) (hv : v = .tuple #[col0.val, .bool false]) (hb : Below w.heap.size w w') : PCol l w (.returned v) w' := ⟨hb, .inr ⟨h, by rw [hv]⟩⟩
/-- The ways through a line. -/
theorem col_miss {l t : List UInt8} (ht : Lib.trimSuffix l nullL = t) (h : 32 ∉ t) : ¬ ∃ c, isCol l c := by
  rintro ⟨c, hc⟩
  have := (isCol_suffix hc).2
  rw [ht] at this
  exact h (by rw [this]; simp)
theorem col_typ {l a r : List UInt8} (ht : Lib.trimSuffix l nullL = a ++ 32 :: r) (h : 32 ∉ a) (hno : ∀ ty sc, okTS ty sc → r ≠ typL ty sc) : ¬ ∃ c, isCol l c := by
  rintro ⟨c, hc⟩
  have := (isCol_suffix hc).2
  rw [ht] at this
  exact hno _ _ hc.1.2 (cut_inj h hc.1.1.2 this).2
theorem col_name {l r : List UInt8} (ht : Lib.trimSuffix l nullL = [] ++ 32 :: r) : ¬ ∃ c, isCol l c := by
  rintro ⟨c, hc⟩
  have := (isCol_suffix hc).2
  rw [ht] at this
  exact hc.1.1.1 (cut_inj (by simp) hc.1.1.2 this).1.symm
theorem col_yes {l a : List UInt8} {ty sc : Int} {nu : Bool} (hs : Lib.hasSuffix l nullL = nu) (ht : Lib.trimSuffix l nullL = a ++ 32 :: typL ty sc) (h : 32 ∉ a) (hne : a ≠ []) (hok : okTS ty sc) : isCol l ⟨str a, ty, sc, nu⟩ := by
  refine ⟨⟨⟨hne, h⟩, hok⟩, ?_⟩
  have hl : l = Lib.trimSuffix l nullL ++ nulL nu := by
    unfold Lib.trimSuffix
    rw [hs]
    cases nu with
    | false => simp [nulL]
    | true =>
      simp only [if_true, nulL]
      obtain ⟨p, hp⟩ := List.isSuffixOf_iff_suffix.1 (show nullL.isSuffixOf l = true from hs)
      rw [← hp, List.length_append, Nat.add_sub_cancel, List.take_left]
  rw [ht] at hl
  rw [hl]
  unfold colL
  rw [str_toList]; simp
theorem nul_str : str nullL = ⟨#[32, 110, 117, 108, 108]⟩ := rfl
theorem trim_len (l : List UInt8) : (Lib.trimSuffix l nullL).length ≤ l.length := Lib.trimSuffix_le l nullL
end Go.SC
namespace Go.Proofs.YtfkdenlpailmeaaDoor
open Go.RowKit Go.VB Go.VL Go.SC
set_option linter.constructorNameAsVariable false
set_option maxRecDepth 100000 in
set_option maxHeartbeats 2000000 in
theorem parseType_any (l : List UInt8) (w : World) (hz : l.length ≤ 140737488351232) : Calls Tryd.prog 51 #[.string (str l)] w (PTyp l w) := by
  have HT := fun a w => Lib.hid (typeOf_any a w)
  rcases cut_cases 32 l with h | ⟨a, r, ha, rfl⟩
  · have HC := fun w => Lib.hid (cut_miss l 32 w h)
    have HTl := fun w => Lib.hid (HT l w).out
    have HN0 := fun w => Lib.hid (show Calls Tryd.prog 58 #[.string ⟨#[]⟩] w (Ret (.int .i64 0) w) from numberOf_any [] w (by decide) (by simp))
    clear HT hz
    by_cases h0 : tyOf l = 0
    · have HNO : Hid (∀ v w', v = .tuple #[.int .i64 0, .int .i64 0, .bool false] → Below w.heap.size w w' → PTyp l w (.returned v) w') := Lib.hid fun v w' hv hb =>
        PTyp.no (fun ty sc hts he => by
          have h1 := (typ_miss h hts he).2
          rw [h1, tyOf_tw hts.1] at h0
          rw [h0] at hts
          exact absurd hts.1 (by decide)) hv hb
      rw [h0] at HTl
      clear h0 h
      generalize PTyp l w = P at *
      generalize str l = S at *
      go_enter Tryd.func51, Tryd.ntmps51
      go_wp2_with fail
      refine (HC _).out.mono ?_
      rintro e w' ⟨rfl, n, rfl⟩
      go_wp2_with (go_at_call 56; refine (HTl _).out.mono ?_; rintro e w' ⟨rfl, rfl⟩)
      exact HNO.out _ _ rfl (Go.below_drewN (Below.refl _ _) n)
    · obtain ⟨hok, htw⟩ := tyOf_in h0
      have h0' : (tyOf l == 0) = false := ieq_f h0
      by_cases h5 : tyOf l = 5
      · have HNO : Hid (∀ v w', v = .tuple #[.int .i64 0, .int .i64 0, .bool false] → Below w.heap.size w w' → PTyp l w (.returned v) w') := Lib.hid fun v w' hv hb =>
          PTyp.no (fun ty sc hts he => by
            have h1 := typ_miss h hts he
            have h2 := h1.2
            rw [htw, h5] at h2
            exact h1.1 (twL_inj hts.1 (by decide) h2.symm)) hv hb
        rw [h5] at HTl
        clear h0 h hok htw h0' h5
        generalize PTyp l w = P at *
        generalize str l = S at *
        go_enter Tryd.func51, Tryd.ntmps51
        go_wp2_with fail
        refine (HC _).out.mono ?_
        rintro e w' ⟨rfl, n, rfl⟩
        go_wp2_with (go_at_call 56; refine (HTl _).out.mono ?_; rintro e w' ⟨rfl, rfl⟩)
        exact HNO.out _ _ rfl (Go.below_drewN (Below.refl _ _) n)
      · have h5' : (tyOf l == 5) = false := ieq_f h5
        have HY : Hid (∀ v w', v = .tuple #[.int .i64 (tyOf l), .int .i64 0, .bool true] → Below w.heap.size w w' → PTyp l w (.returned v) w') := Lib.hid fun v w' hv hb =>
          PTyp.yes (okTS_zero hok h5) (by rw [typL_other h5]; exact htw) hv hb
        clear h0 h hok htw h5
        generalize PTyp l w = P at *
        generalize str l = S at *
        generalize tyOf l = T at *
        go_enter Tryd.func51, Tryd.ntmps51
        go_wp2_with fail
        refine (HC _).out.mono ?_
        rintro e w' ⟨rfl, n, rfl⟩
        go_wp2_with (first | (go_at_call 56; refine (HTl _).out.mono ?_; rintro e w' ⟨rfl, rfl⟩) | (go_at_call 58; refine (HN0 _).out.mono ?_; rintro e w' ⟨rfl, rfl⟩))
        exact HY.out _ _ rfl (Go.below_drewN (Below.refl _ _) n)
  · have HC := fun w => Lib.hid (cut_hit a r 32 w ha hz)
    have HTl := fun w => Lib.hid (HT a w).out
    have HS := fun w => Lib.hid (isScale_any r w (by have := hz; simp at this; omega))
    clear HT
    by_cases h0 : tyOf a = 0
    · have HNO : Hid (∀ v w', v = .tuple #[.int .i64 0, .int .i64 0, .bool false] → Below w.heap.size w w' → PTyp (a ++ 32 :: r) w (.returned v) w') := Lib.hid fun v w' hv hb =>
        PTyp.no (fun ty sc hts he => by
          have h1 := (typ_hit ha hts he).2.1
          rw [h1] at h0
          exact absurd h0 (by decide)) hv hb
      rw [h0] at HTl
      clear h0 ha HS hz
      generalize PTyp (a ++ 32 :: r) w = P at *
      generalize str (a ++ 32 :: r) = S at *
      generalize str a = X at *
      generalize str r = Y at *
      go_enter Tryd.func51, Tryd.ntmps51
      go_wp2_with fail
      refine (HC _).out.mono ?_
      rintro e w' ⟨rfl, n, rfl⟩
      go_wp2_with (go_at_call 56; refine (HTl _).out.mono ?_; rintro e w' ⟨rfl, rfl⟩)
      exact HNO.out _ _ rfl (Go.below_drewN (Below.refl _ _) n)
    · obtain ⟨hok, htw⟩ := tyOf_in h0
      have h0' : (tyOf a == 0) = false := ieq_f h0
      by_cases h5 : tyOf a = 5
      · rw [h5] at HTl htw
        cases hs : scB r with
        | false =>
          have HNO : Hid (∀ v w', v = .tuple #[.int .i64 0, .int .i64 0, .bool false] → Below w.heap.size w w' → PTyp (a ++ 32 :: r) w (.returned v) w') := Lib.hid fun v w' hv hb =>
            PTyp.no (fun ty sc hts he => by
              obtain ⟨h1, h2, h3⟩ := typ_hit ha hts he
              have : scB r = true := (scB_iff r).2 ⟨sc.toNat, by have := hts.2.1 h1; omega, h3⟩
              rw [hs] at this; cases this) hv hb
          rw [hs] at HS
          clear h0 ha hz hok htw h0' h5 hs
          generalize PTyp (a ++ 32 :: r) w = P at *
          generalize str (a ++ 32 :: r) = S at *
          generalize str a = X at *
          generalize str r = Y at *
          go_enter Tryd.func51, Tryd.ntmps51
          go_wp2_with fail
          refine (HC _).out.mono ?_
          rintro e w' ⟨rfl, n, rfl⟩
          go_wp2_with (first | (go_at_call 56; refine (HTl _).out.mono ?_; rintro e w' ⟨rfl, rfl⟩) | (go_at_call 57; refine (HS _).out.mono ?_; rintro e w' ⟨rfl, rfl⟩))
          exact HNO.out _ _ rfl (Go.below_drewN (Below.refl _ _) n)
        | true =>
          obtain ⟨k, hk, rfl⟩ := (scB_iff r).1 hs
          have HN := fun w => Lib.hid (numberOf_any (scL k) w (scL_len hk).2 (scL_dig hk))
          rw [scL_val hk] at HN
          have HY : Hid (∀ v w', v = .tuple #[.int .i64 5, .int .i64 (k : Int), .bool true] → Below w.heap.size w w' → PTyp (a ++ 32 :: scL k) w (.returned v) w') := Lib.hid fun v w' hv hb =>
            PTyp.yes (okTS_five hk) (by rw [typL_five, htw]; rfl) hv hb
          rw [hs] at HS
          clear h0 ha hz hok htw h0' h5 hs
          generalize PTyp (a ++ 32 :: scL k) w = P at *
          generalize str (a ++ 32 :: scL k) = S at *
          generalize str a = X at *
          generalize str (scL k) = Y at *
          go_enter Tryd.func51, Tryd.ntmps51
          go_wp2_with fail
          refine (HC _).out.mono ?_
          rintro e w' ⟨rfl, n, rfl⟩
          go_wp2_with (first | (go_at_call 56; refine (HTl _).out.mono ?_; rintro e w' ⟨rfl, rfl⟩) | (go_at_call 57; refine (HS _).out.mono ?_; rintro e w' ⟨rfl, rfl⟩) | (go_at_call 58; refine (HN _).out.mono ?_; rintro e w' ⟨rfl, rfl⟩))
          exact HY.out _ _ rfl (Go.below_drewN (Below.refl _ _) n)
      · have h5' : (tyOf a == 5) = false := ieq_f h5
        have HNO : Hid (∀ v w', v = .tuple #[.int .i64 0, .int .i64 0, .bool false] → Below w.heap.size w w' → PTyp (a ++ 32 :: r) w (.returned v) w') := Lib.hid fun v w' hv hb =>
          PTyp.no (fun ty sc hts he => by
            have h1 := (typ_hit ha hts he).2.1
            rw [h1] at h5
            exact absurd rfl h5) hv hb
        clear h0 ha hok htw h5 HS hz
        generalize PTyp (a ++ 32 :: r) w = P at *
        generalize str (a ++ 32 :: r) = S at *
        generalize str a = X at *
        generalize str r = Y at *
        generalize tyOf a = T at *
        go_enter Tryd.func51, Tryd.ntmps51
        go_wp2_with fail
        refine (HC _).out.mono ?_
        rintro e w' ⟨rfl, n, rfl⟩
        go_wp2_with (go_at_call 56; refine (HTl _).out.mono ?_; rintro e w' ⟨rfl, rfl⟩)
        exact HNO.out _ _ rfl (Go.below_drewN (Below.refl _ _) n)
set_option maxRecDepth 100000 in
set_option maxHeartbeats 4000000 in
theorem parseCol_any (l : List UInt8) (W : World) (hz : l.length ≤ 140737488351232) : Calls Tryd.prog 38 #[.string (str l)] W (PCol l W) := by
  have HSuf := fun w => Lib.hid (cutSuf_any l nullL w hz (by decide))
  rw [nul_str] at HSuf
  have hV := Var4F.new W (.string ⟨#[]⟩) (.int .i64 0) (.int .i64 0) (.bool false) 32
  have hB : Below W.heap.size W (W.alloc (.cells #[.string ⟨#[]⟩, .int .i64 0, .int .i64 0, .bool false] 32)) := (Below.refl _ _).alloc (Nat.le_refl _) _
  have HYES : Hid (∀ c v w', isCol l c → v = .tuple #[c.val, .bool true] → Below W.heap.size W w' → PCol l W (.returned v) w') := Lib.hid fun c v w' h hv hb => PCol.yes h hv hb
  have HNO : Hid (∀ v w', (¬ ∃ c, isCol l c) → v = .tuple #[col0.val, .bool false] → Below W.heap.size W w' → PCol l W (.returned v) w') := Lib.hid fun v w' h hv hb => PCol.no h hv hb
  have hlen := trim_len l
  obtain ⟨t, ht⟩ : ∃ t, Lib.trimSuffix l nullL = t := ⟨_, rfl⟩
  obtain ⟨nu, hnu⟩ : ∃ nu, Lib.hasSuffix l nullL = nu := ⟨_, rfl⟩
  rw [ht] at HSuf hlen
  rw [hnu] at HSuf
  have HT := Lib.hid ht
  have HNU := Lib.hid hnu
  generalize PCol l W = P at *
  generalize str l = S at *
  clear ht hnu
  -- the walk up to the first cut
  have HPOST : Hid (∀ (w' : World), Below W.heap.size W w' → Var4F w' W.heap.size (.string ⟨#[]⟩) (.int .i64 0) (.int .i64 0) (.bool false) → True) := Lib.hid fun _ _ _ => trivial
  clear HPOST
  rcases cut_cases 32 t with h | ⟨a, r, ha, rfl⟩
  · have HC := fun w => Lib.hid (cut_miss t 32 w h)
    have HNO2 := fun v w' => Lib.hid (HNO.out v w' (col_miss HT.out h))
    have HP := fun w => Lib.hid (parseType_any [] w (by decide))
    rw [str_nil] at HP
    clear HYES HNO h HT HNU hlen
    generalize str t = T at *
    go_enter Tryd.func38, Tryd.ntmps38
    go_wp2_with fail
    refine (HSuf _).out.mono ?_
    rintro e w1 ⟨rfl, rfl⟩
    go_wp2_with fail
    refine (HC _).out.mono ?_
    rintro e w2 ⟨rfl, n, rfl⟩
    replace hB := Go.below_drewN hB n
    replace hV := hV.step (Go.below_drewN (Below.refl _ _) n)
    go_wp2_with fail
    refine (HP _).out.mono ?_
    rintro e w3 ⟨hb3, hp⟩
    replace hB := bel_trans hB hb3
    replace hV := hV.step hb3
    rcases hp with ⟨ty, sc, hts, he, rfl⟩ | ⟨hno, rfl⟩
    · exact absurd (show twL ty = [] from by
        by_cases h5 : ty = 5
        · subst h5; rw [typL_five] at he; exact absurd he (by simp)
        · rw [typL_other h5] at he; exact he.symm) (twL_ne hts.1)
    · clear hno hb3 HC HSuf HP
      have hS := hV.set (.string ⟨#[]⟩) (.int .i64 0) (.int .i64 0) (.bool false)
      have hBS := set4_below hB (Nat.le_refl _) (.string ⟨#[]⟩) (.int .i64 0) (.int .i64 0) (.bool false)
      obtain ⟨c0, c1, c2, c3, f0, f1, f2, f3⟩ := hV
      go_wp2_with fail
      generalize (((w3.setCell ⟨W.heap.size, 0, none⟩ (.string ⟨#[]⟩)).setCell ⟨W.heap.size, 1, none⟩ (.int .i64 0)).setCell ⟨W.heap.size, 2, none⟩ (.int .i64 0)).setCell ⟨W.heap.size, 3, none⟩ (.bool false) = w9 at *
      obtain ⟨m0, m1, m2, m3, _, _, _, _⟩ := hS
      refine bodyPost_ret (v := .tuple #[.agg #[.string ⟨#[]⟩, .int .i64 0, .int .i64 0, .bool false], .bool false]) (by simp [results, Tryd.results38, go_sem, m0, m1, m2, m3]) rfl ?_
      exact (HNO2 _ _).out rfl hBS
  · have HC := fun w => Lib.hid (cut_hit a r 32 w ha (by omega))
    have HP := fun w => Lib.hid (parseType_any r w (by simp at hlen; omega))
    have HNT := fun hno v w' => Lib.hid (HNO.out v w' (col_typ HT.out ha hno))
    have HNN : Hid (a = [] → ∀ v w', Hid (v = .tuple #[col0.val, .bool false] → Below W.heap.size W w' → P (.returned v) w')) := Lib.hid fun h v w' => Lib.hid (HNO.out v w' (by subst h; exact col_name HT.out))
    have HY : Hid (∀ ty sc, okTS ty sc → r = typL ty sc → a ≠ [] → ∀ v w', Hid (v = .tuple #[.agg #[.string (str a), .int .i64 ty, .int .i64 sc, .bool nu], .bool true] → Below W.heap.size W w' → P (.returned v) w')) := Lib.hid fun ty sc hts he hne v w' => Lib.hid fun hv hb =>
      HYES.out ⟨str a, ty, sc, nu⟩ v w' (col_yes HNU.out (by rw [HT.out, he]) ha hne hts) hv hb
    have hfull : Hid (a ≠ [] → (str a).toList.isEmpty = false) := Lib.hid str_full
    have hempty : Hid (a = [] → str a = ⟨#[]⟩) := Lib.hid fun h => by rw [h]; rfl
    have hPT : PTyp r = PTyp r := rfl
    clear HYES HNO HT HNU hlen hPT ha
    generalize str (a ++ 32 :: r) = T at *
    generalize str a = X at *
    generalize str r = Y at *
    go_enter Tryd.func38, Tryd.ntmps38
    go_wp2_with fail
    refine (HSuf _).out.mono ?_
    rintro e w1 ⟨rfl, rfl⟩
    go_wp2_with fail
    refine (HC _).out.mono ?_
    rintro e w2 ⟨rfl, n, rfl⟩
    replace hB := Go.below_drewN hB n
    replace hV := hV.step (Go.below_drewN (Below.refl _ _) n)
    go_wp2_with fail
    refine (HP _).out.mono ?_
    rintro e w3 ⟨hb3, hp⟩
    replace hB := bel_trans hB hb3
    replace hV := hV.step hb3
    clear hb3 HC HSuf HP
    rcases hp with ⟨ty, sc, hts, he, rfl⟩ | ⟨hno, rfl⟩
    · by_cases h0 : a = []
      · have HNO2 := HNN.out h0
        have hX := hempty.out h0
        clear HY HNN HNT hfull hempty h0 hts he
        subst hX
        have hS := hV.set (.string ⟨#[]⟩) (.int .i64 0) (.int .i64 0) (.bool false)
        have hBS := set4_below hB (Nat.le_refl _) (.string ⟨#[]⟩) (.int .i64 0) (.int .i64 0) (.bool false)
        obtain ⟨c0, c1, c2, c3, f0, f1, f2, f3⟩ := hV
        go_wp2_with fail
        generalize (((w3.setCell ⟨W.heap.size, 0, none⟩ (.string ⟨#[]⟩)).setCell ⟨W.heap.size, 1, none⟩ (.int .i64 0)).setCell ⟨W.heap.size, 2, none⟩ (.int .i64 0)).setCell ⟨W.heap.size, 3, none⟩ (.bool false) = w9 at *
        obtain ⟨m0, m1, m2, m3, _, _, _, _⟩ := hS
        refine bodyPost_ret (v := .tuple #[.agg #[.string ⟨#[]⟩, .int .i64 0, .int .i64 0, .bool false], .bool false]) (by simp [results, Tryd.results38, go_sem, m0, m1, m2, m3]) rfl ?_
        exact (HNO2 _ _).out rfl hBS
      · have HY2 := HY.out ty sc hts he h0
        have hX := hfull.out h0
        clear HY HNN HNT hfull hempty h0 hts he
        have hS := hV.set (.string X) (.int .i64 ty) (.int .i64 sc) (.bool nu)
        have hBS := set4_below hB (Nat.le_refl _) (.string X) (.int .i64 ty) (.int .i64 sc) (.bool nu)
        obtain ⟨c0, c1, c2, c3, f0, f1, f2, f3⟩ := hV
        go_wp2_with fail
        generalize (((w3.setCell ⟨W.heap.size, 0, none⟩ (.string X)).setCell ⟨W.heap.size, 1, none⟩ (.int .i64 ty)).setCell ⟨W.heap.size, 2, none⟩ (.int .i64 sc)).setCell ⟨W.heap.size, 3, none⟩ (.bool nu) = w9 at *
        obtain ⟨m0, m1, m2, m3, _, _, _, _⟩ := hS
        refine bodyPost_ret (v := .tuple #[.agg #[.string X, .int .i64 ty, .int .i64 sc, .bool nu], .bool true]) (by simp [results, Tryd.results38, go_sem, m0, m1, m2, m3]) rfl ?_
        exact (HY2 _ _).out rfl hBS
    · have HNO2 := HNT hno
      clear HY HNN HNT hfull hempty hno
      have hS := hV.set (.string ⟨#[]⟩) (.int .i64 0) (.int .i64 0) (.bool false)
      have hBS := set4_below hB (Nat.le_refl _) (.string ⟨#[]⟩) (.int .i64 0) (.int .i64 0) (.bool false)
      obtain ⟨c0, c1, c2, c3, f0, f1, f2, f3⟩ := hV
      go_wp2_with fail
      generalize (((w3.setCell ⟨W.heap.size, 0, none⟩ (.string ⟨#[]⟩)).setCell ⟨W.heap.size, 1, none⟩ (.int .i64 0)).setCell ⟨W.heap.size, 2, none⟩ (.int .i64 0)).setCell ⟨W.heap.size, 3, none⟩ (.bool false) = w9 at *
      obtain ⟨m0, m1, m2, m3, _, _, _, _⟩ := hS
      refine bodyPost_ret (v := .tuple #[.agg #[.string ⟨#[]⟩, .int .i64 0, .int .i64 0, .bool false], .bool false]) (by simp [results, Tryd.results38, go_sem, m0, m1, m2, m3]) rfl ?_
      exact (HNO2 _ _).out rfl hBS
end Go.Proofs.YtfkdenlpailmeaaDoor
