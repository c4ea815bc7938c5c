/- WideTexts: Format and Parse return the specified results for arbitrary texts and for texts of digits. No condition. -/
import Derived.Test.YtollobhkdbodlaaWidL7
namespace Go.Proofs.Ytollobhkdbodlaa
open Go.RowKit Go.VB Go.WD Go.DT Go.DC Go.ChangeShapes Go.WideShapes Go.ChangeAt
open Go.ChangeMaps (open_string)
set_option linter.constructorNameAsVariable false
theorem gmi8 {l : List Int} {i : Nat} (h : i < l.length) : l.getD i 0 ∈ l := by
  rw [List.getD_eq_getElem?_getD, List.getElem?_eq_getElem h]; exact List.getElem_mem h
set_option maxRecDepth 100000 in
set_option maxHeartbeats 4000000 in
theorem texts_pos (a : Int) (s : ByteArray) (A : Option Addr) (cap : Nat) (zl : List Int) (W : World) (wa : W128 a) (zs : s.size ≤ 140737488351232) (hmx : zl.length ≤ 9223372036854775807)
    (hrr : ∀ i, i < zl.length → ∃ ad, A = some ad ∧ ad.block < W.heap.size ∧ W.cell? (ad.add i) = some (.int .u8 (zl.getD i 0))) (wl : ∀ z ∈ zl, (Lit.int .u8 z).wf = true) :
    Calls Try.prog 8 #[wd a, .string s, .slice A zl.length cap, .bool false] W (RetB (.bool true) W) := by
  have hAw := fun w => Lib.hid (awake13_any w)
  have g1 := fun w => Lib.hid (wparse_any s w zs)
  have g2 := fun w => Lib.hid (rwparse_any s w zs)
  have g3 := fun (T : ByteArray) (hT : T.size ≤ 100) w => Lib.hid (wparse_any T w (by omega))
  have g4 := fun (T : ByteArray) (hT : T.size ≤ 100) w => Lib.hid (rwparse_any T w (by omega))
  have g5 := fun w => Lib.hid (wformat_any a w wa)
  have g6 := fun w => Lib.hid (rwformat_any a w wa)
  simp only [wd_is] at g1 g2 g3 g4 g5 g6
  rw [wd_is]
  clear wa
  generalize FT a = F at *
  generalize hi a = p at *
  generalize lo a = u at *
  generalize hi (WN s) = ps at *
  generalize lo (WN s) = us at *
  generalize WC s = cs at *
  have HWL := Lib.hid wl
  clear wl
  have v4 := Var2.new W (.int .i64 p) (.int .u64 u) 24
  have hb0 : Below W.heap.size W (W.alloc (.cells #[.int .i64 p, .int .u64 u] 24)) := by go_grown
  have hcell := fun i (hi : i < zl.length) (w' : World) (hb : Below W.heap.size W w') => Lib.hid (show ∃ ad, A = some ad ∧ w'.cell? (ad.add i) = some (.int .u8 (zl.getD i 0)) from by
    obtain ⟨ad, h1, h2, h3⟩ := hrr i hi
    exact ⟨ad, h1, by rw [hb.cell (p := ad.add i) (by rw [Go.VB.block_add]; exact h2)]; exact h3⟩)
  clear hrr
  go_enter Try.func8, Try.ntmps8
  go_wp2_with fail
  generalize W.alloc (.cells #[.int .i64 p, .int .u64 u] 24) = w1 at *
  go_loopw [9, 10] (fun x i wr => ∃ (T : ByteArray) (j : Nat), x = .string T ∧ i = .int .i64 (j : Int) ∧ j ≤ 42 ∧ j ≤ zl.length ∧ T.size ≤ 1 + j ∧ Below w1.heap.size w1 wr) (fun _ i _ => 42 - (intOf i).toNat)
  case atStart => exact ⟨⟨#[]⟩, 0, rfl, rfl, by omega, by omega, by decide, Below.refl _ _⟩
  case round =>
    obtain ⟨T, j, rfl, rfl, hj, hjl, hT, hbw⟩ := hrel
    by_cases hlt : j < zl.length ∧ j < 42
    · obtain ⟨h1, h2⟩ := hlt
      have d1 : decide ((j : Int) < (zl.length : Int)) = true := decide_eq_true (by omega)
      have d2 : decide ((j : Int) < 42) = true := decide_eq_true (by omega)
      obtain ⟨z1, z2⟩ := bounds_u8 (HWL.out _ (gmi8 h1))
      have hcj := fun (w' : World) (hb' : Below wr.heap.size wr w') => hcell j h1 w' (bel_trans hb0 (bel_trans hbw hb'))
      obtain ⟨ad, rfl, -⟩ := (hcj wr (Below.refl _ _)).out
      obtain ⟨Y, hY⟩ := Int.eq_ofNat_of_zero_le z1
      rw [hY] at hcj z2
      have hcj2 := fun (w' : World) (hb' : Below wr.heap.size wr w') => Lib.hid (show w'.cell? (ad.add j) = some (.int .u8 (Y : Int)) from by
        obtain ⟨ad2, e1, e2⟩ := (hcj w' hb').out
        obtain rfl := Option.some.inj e1
        exact e2)
      clear hcj z1 hY hcell g1 g2 g3 g4 g5 g6 hAw HWL
      have hY2 : Y < 256 := by omega
      have hs := fun w => cut10k (P := Try.prog) Try.underlying9 .u8 .u8 (R := Y % 10) (Nat.mod_lt _ (by decide)) w
      rw [digit_text (Nat.mod_lt _ (by decide))] at hs
      rw [show ((Y % 10 : Nat) : Int) = (Y : Int) % 10 from by omega] at hs
      have hDs : (str [UInt8.ofNat (48 + Y % 10)]).size = 1 := by rw [str_size]; rfl
      generalize str [UInt8.ofNat (48 + Y % 10)] = Dg at *
      have hadd := fun w => run_string_add_sum (P := Try.prog) w T Dg (by omega)
      have hT2 : (T ++ Dg).size ≤ 1 + (j + 1) := by rw [ByteArray.size_append]; omega
      generalize T ++ Dg = T2 at *
      clear hDs
      go_wp2_with fail
      refine Go.Confl.wp_region_confl (by simp only [List.map_cons, List.map_nil]; rfl) (by kernel_rfl) (by kernel_rfl) ?_
      iterate 15
        first
        | (refine Go.Confl.chain_skip (Go.Confl.unwanted_is rfl rfl) ?_)
        | (first | apply Go.Confl.chain_is _ (Go.Confl.wanted_none rfl) | apply Go.Confl.chain_is _ (Go.Confl.wanted_is rfl rfl)
           · intro b w hr hb K hK
             simp [Go.Confl.readFacts, Go.Confl.tmpsOf, Go.Confl.writerOf, Go.Confl.Is, Op.operands, List.findIdx?, List.findIdx?.go] at hr
             have hcx := (hcj2 _ hb).out
             go_wp2_with fail
             try (simp only [hr]; go_wp2)
             exact hK _ _ rfl (by first | exact Below.refl _ _ | assumption))
        simp only [List.nil_append, List.cons_append]
      intro us w hp hb
      simp [Go.Confl.allPosts, Go.Confl.Is] at hp
      simp only [Go.Confl.putsFrom, hp, Act.put, List.setIfInBounds_toArray, List.set_cons_zero, List.set_cons_succ]
      go_wp2
      exact ⟨⟨T2, j + 1, rfl, by go_num, by omega, by omega, hT2, bel_trans hbw hb⟩, by simp [intOf] <;> omega⟩
    · have G3 := g3 T (by omega)
      have G4 := g4 T (by omega)
      generalize hi (WN T) = pt at *
      generalize lo (WN T) = ut at *
      generalize WC T = ct at *
      have hbB := bel_trans hb0 hbw
      have v4' := v4.step hbw
      clear g3 g4 hcell HWL hT hb0 v4
      have hd : ¬ j < zl.length ∨ (j = 42 ∧ 42 < zl.length) := by omega
      clear hlt hj hjl hbw
      rcases hd with d1 | ⟨rfl, d1⟩
      · go_wp2_with fail
        (with_reducible refine (g1 _).out.mono ?_)
        rintro e w2 ⟨rfl, hb2⟩
        have hq0 := bel_trans hb2 ((Below.refl w2.heap.size w2).alloc (Nat.le_refl _) (.cells #[.int .i64 ps, .int .u64 us] 24))
        replace v4' := v4'.step hq0
        replace hbB := bel_trans hbB hq0
        have y0 := Var2.new w2 (.int .i64 ps) (.int .u64 us) 24
        clear hq0 g1
        go_wp2_with fail
        (with_reducible refine (g2 _).out.mono ?_)
        rintro e w3 ⟨rfl, hb3⟩
        have hq1 := bel_trans hb3 ((Below.refl w3.heap.size w3).alloc (Nat.le_refl _) (.cells #[.int .i64 ps, .int .u64 us] 24))
        replace v4' := v4'.step hq1
        replace y0 := y0.step hq1
        replace hbB := bel_trans hbB hq1
        have y1 := Var2.new w3 (.int .i64 ps) (.int .u64 us) 24
        clear hq1 g2
        go_wp2_with fail
        (with_reducible refine (G3 _).out.mono ?_)
        rintro e w4 ⟨rfl, hb4⟩
        have hq2 := bel_trans hb4 ((Below.refl w4.heap.size w4).alloc (Nat.le_refl _) (.cells #[.int .i64 pt, .int .u64 ut] 24))
        replace v4' := v4'.step hq2
        replace y0 := y0.step hq2
        replace y1 := y1.step hq2
        replace hbB := bel_trans hbB hq2
        have y2 := Var2.new w4 (.int .i64 pt) (.int .u64 ut) 24
        clear hq2 G3
        go_wp2_with fail
        (with_reducible refine (G4 _).out.mono ?_)
        rintro e w5 ⟨rfl, hb5⟩
        have hq3 := bel_trans hb5 ((Below.refl w5.heap.size w5).alloc (Nat.le_refl _) (.cells #[.int .i64 pt, .int .u64 ut] 24))
        replace v4' := v4'.step hq3
        replace y0 := y0.step hq3
        replace y1 := y1.step hq3
        replace y2 := y2.step hq3
        replace hbB := bel_trans hbB hq3
        have y3 := Var2.new w5 (.int .i64 pt) (.int .u64 ut) 24
        clear hq3 G4
        go_wp2_with fail
        have HV := fun (w' : World) (hb : Below (w5.alloc (.cells #[.int .i64 pt, .int .u64 ut] 24)).heap.size (w5.alloc (.cells #[.int .i64 pt, .int .u64 ut] 24)) w') => Lib.hid (And.intro (bel_trans hbB hb) (And.intro (v4'.step hb) (And.intro (y0.step hb) (And.intro (y1.step hb) (And.intro (y2.step hb) (y3.step hb))))))
        clear v4' y0 y1 y2 y3 hbB
        refine Go.Confl.wp_region_confl (by simp only [List.map_cons, List.map_nil]; rfl) (by kernel_rfl) (by kernel_rfl) ?_
        iterate 29
          first
          | (refine Go.Confl.chain_skip (Go.Confl.unwanted_is rfl rfl) ?_)
          | (first | apply Go.Confl.chain_is _ (Go.Confl.wanted_none rfl) | apply Go.Confl.chain_is _ (Go.Confl.wanted_is rfl rfl)
             · intro b w hr hb K hK
               simp [Go.Confl.readFacts, Go.Confl.tmpsOf, Go.Confl.writerOf, Go.Confl.Is, Op.operands, Call.operands, List.findIdx?, List.findIdx?.go] at hr
               obtain ⟨-, ⟨a0, a1, -, -⟩, ⟨c0, c1, -, -⟩, ⟨d0, d1, -, -⟩, ⟨e0, e1, -, -⟩, ⟨f0, f1, -, -⟩⟩ := (HV _ hb).out
               go_wp2_with (first
                 | (go_at_call 17; (with_reducible refine (hAw _).out.mono ?_); rintro e w' ⟨rfl, hb'⟩)
                 | (go_at_call 15; (with_reducible refine (g5 _).out.mono ?_); rintro e w' ⟨rfl, hb'⟩)
                 | (go_at_call 26; (with_reducible refine (g6 _).out.mono ?_); rintro e w' ⟨rfl, hb'⟩))
               try (simp only [hr]; go_wp2)
               exact hK _ _ rfl (by first | exact Below.refl _ _ | assumption))
          simp only [List.nil_append, List.cons_append]
        intro us w hp hb
        simp [Go.Confl.allPosts, Go.Confl.Is] at hp
        simp only [Go.Confl.putsFrom, hp, Act.put, List.setIfInBounds_toArray, List.set_cons_zero, List.set_cons_succ]
        go_wp2
        go_ret
        exact RetB.mk rfl (HV _ hb).out.1
      · go_wp2_with fail
        (with_reducible refine (g1 _).out.mono ?_)
        rintro e w2 ⟨rfl, hb2⟩
        have hq0 := bel_trans hb2 ((Below.refl w2.heap.size w2).alloc (Nat.le_refl _) (.cells #[.int .i64 ps, .int .u64 us] 24))
        replace v4' := v4'.step hq0
        replace hbB := bel_trans hbB hq0
        have y0 := Var2.new w2 (.int .i64 ps) (.int .u64 us) 24
        clear hq0 g1
        go_wp2_with fail
        (with_reducible refine (g2 _).out.mono ?_)
        rintro e w3 ⟨rfl, hb3⟩
        have hq1 := bel_trans hb3 ((Below.refl w3.heap.size w3).alloc (Nat.le_refl _) (.cells #[.int .i64 ps, .int .u64 us] 24))
        replace v4' := v4'.step hq1
        replace y0 := y0.step hq1
        replace hbB := bel_trans hbB hq1
        have y1 := Var2.new w3 (.int .i64 ps) (.int .u64 us) 24
        clear hq1 g2
        go_wp2_with fail
        (with_reducible refine (G3 _).out.mono ?_)
        rintro e w4 ⟨rfl, hb4⟩
        have hq2 := bel_trans hb4 ((Below.refl w4.heap.size w4).alloc (Nat.le_refl _) (.cells #[.int .i64 pt, .int .u64 ut] 24))
        replace v4' := v4'.step hq2
        replace y0 := y0.step hq2
        replace y1 := y1.step hq2
        replace hbB := bel_trans hbB hq2
        have y2 := Var2.new w4 (.int .i64 pt) (.int .u64 ut) 24
        clear hq2 G3
        go_wp2_with fail
        (with_reducible refine (G4 _).out.mono ?_)
        rintro e w5 ⟨rfl, hb5⟩
        have hq3 := bel_trans hb5 ((Below.refl w5.heap.size w5).alloc (Nat.le_refl _) (.cells #[.int .i64 pt, .int .u64 ut] 24))
        replace v4' := v4'.step hq3
        replace y0 := y0.step hq3
        replace y1 := y1.step hq3
        replace y2 := y2.step hq3
        replace hbB := bel_trans hbB hq3
        have y3 := Var2.new w5 (.int .i64 pt) (.int .u64 ut) 24
        clear hq3 G4
        go_wp2_with fail
        have HV := fun (w' : World) (hb : Below (w5.alloc (.cells #[.int .i64 pt, .int .u64 ut] 24)).heap.size (w5.alloc (.cells #[.int .i64 pt, .int .u64 ut] 24)) w') => Lib.hid (And.intro (bel_trans hbB hb) (And.intro (v4'.step hb) (And.intro (y0.step hb) (And.intro (y1.step hb) (And.intro (y2.step hb) (y3.step hb))))))
        clear v4' y0 y1 y2 y3 hbB
        refine Go.Confl.wp_region_confl (by simp only [List.map_cons, List.map_nil]; rfl) (by kernel_rfl) (by kernel_rfl) ?_
        iterate 29
          first
          | (refine Go.Confl.chain_skip (Go.Confl.unwanted_is rfl rfl) ?_)
          | (first | apply Go.Confl.chain_is _ (Go.Confl.wanted_none rfl) | apply Go.Confl.chain_is _ (Go.Confl.wanted_is rfl rfl)
             · intro b w hr hb K hK
               simp [Go.Confl.readFacts, Go.Confl.tmpsOf, Go.Confl.writerOf, Go.Confl.Is, Op.operands, Call.operands, List.findIdx?, List.findIdx?.go] at hr
               obtain ⟨-, ⟨a0, a1, -, -⟩, ⟨c0, c1, -, -⟩, ⟨d0, d1, -, -⟩, ⟨e0, e1, -, -⟩, ⟨f0, f1, -, -⟩⟩ := (HV _ hb).out
               go_wp2_with (first
                 | (go_at_call 17; (with_reducible refine (hAw _).out.mono ?_); rintro e w' ⟨rfl, hb'⟩)
                 | (go_at_call 15; (with_reducible refine (g5 _).out.mono ?_); rintro e w' ⟨rfl, hb'⟩)
                 | (go_at_call 26; (with_reducible refine (g6 _).out.mono ?_); rintro e w' ⟨rfl, hb'⟩))
               try (simp only [hr]; go_wp2)
               exact hK _ _ rfl (by first | exact Below.refl _ _ | assumption))
          simp only [List.nil_append, List.cons_append]
        intro us w hp hb
        simp [Go.Confl.allPosts, Go.Confl.Is] at hp
        simp only [Go.Confl.putsFrom, hp, Act.put, List.setIfInBounds_toArray, List.set_cons_zero, List.set_cons_succ]
        go_wp2
        go_ret
        exact RetB.mk rfl (HV _ hb).out.1
set_option maxRecDepth 100000 in
set_option maxHeartbeats 4000000 in
theorem texts_neg (a : Int) (s : ByteArray) (A : Option Addr) (cap : Nat) (zl : List Int) (W : World) (wa : W128 a) (zs : s.size ≤ 140737488351232) (hmx : zl.length ≤ 9223372036854775807)
    (hrr : ∀ i, i < zl.length → ∃ ad, A = some ad ∧ ad.block < W.heap.size ∧ W.cell? (ad.add i) = some (.int .u8 (zl.getD i 0))) (wl : ∀ z ∈ zl, (Lit.int .u8 z).wf = true) :
    Calls Try.prog 8 #[wd a, .string s, .slice A zl.length cap, .bool true] W (RetB (.bool true) W) := by
  have hAw := fun w => Lib.hid (awake13_any w)
  have g1 := fun w => Lib.hid (wparse_any s w zs)
  have g2 := fun w => Lib.hid (rwparse_any s w zs)
  have g3 := fun (T : ByteArray) (hT : T.size ≤ 100) w => Lib.hid (wparse_any T w (by omega))
  have g4 := fun (T : ByteArray) (hT : T.size ≤ 100) w => Lib.hid (rwparse_any T w (by omega))
  have g5 := fun w => Lib.hid (wformat_any a w wa)
  have g6 := fun w => Lib.hid (rwformat_any a w wa)
  simp only [wd_is] at g1 g2 g3 g4 g5 g6
  rw [wd_is]
  clear wa
  generalize FT a = F at *
  generalize hi a = p at *
  generalize lo a = u at *
  generalize hi (WN s) = ps at *
  generalize lo (WN s) = us at *
  generalize WC s = cs at *
  have HWL := Lib.hid wl
  clear wl
  have v4 := Var2.new W (.int .i64 p) (.int .u64 u) 24
  have hb0 : Below W.heap.size W (W.alloc (.cells #[.int .i64 p, .int .u64 u] 24)) := by go_grown
  have hcell := fun i (hi : i < zl.length) (w' : World) (hb : Below W.heap.size W w') => Lib.hid (show ∃ ad, A = some ad ∧ w'.cell? (ad.add i) = some (.int .u8 (zl.getD i 0)) from by
    obtain ⟨ad, h1, h2, h3⟩ := hrr i hi
    exact ⟨ad, h1, by rw [hb.cell (p := ad.add i) (by rw [Go.VB.block_add]; exact h2)]; exact h3⟩)
  clear hrr
  go_enter Try.func8, Try.ntmps8
  go_wp2_with fail
  generalize W.alloc (.cells #[.int .i64 p, .int .u64 u] 24) = w1 at *
  go_loopw [9, 10] (fun x i wr => ∃ (T : ByteArray) (j : Nat), x = .string T ∧ i = .int .i64 (j : Int) ∧ j ≤ 42 ∧ j ≤ zl.length ∧ T.size ≤ 1 + j ∧ Below w1.heap.size w1 wr) (fun _ i _ => 42 - (intOf i).toNat)
  case atStart => exact ⟨⟨#[45]⟩, 0, rfl, rfl, by omega, by omega, by decide, Below.refl _ _⟩
  case round =>
    obtain ⟨T, j, rfl, rfl, hj, hjl, hT, hbw⟩ := hrel
    by_cases hlt : j < zl.length ∧ j < 42
    · obtain ⟨h1, h2⟩ := hlt
      have d1 : decide ((j : Int) < (zl.length : Int)) = true := decide_eq_true (by omega)
      have d2 : decide ((j : Int) < 42) = true := decide_eq_true (by omega)
      obtain ⟨z1, z2⟩ := bounds_u8 (HWL.out _ (gmi8 h1))
      have hcj := fun (w' : World) (hb' : Below wr.heap.size wr w') => hcell j h1 w' (bel_trans hb0 (bel_trans hbw hb'))
      obtain ⟨ad, rfl, -⟩ := (hcj wr (Below.refl _ _)).out
      obtain ⟨Y, hY⟩ := Int.eq_ofNat_of_zero_le z1
      rw [hY] at hcj z2
      have hcj2 := fun (w' : World) (hb' : Below wr.heap.size wr w') => Lib.hid (show w'.cell? (ad.add j) = some (.int .u8 (Y : Int)) from by
        obtain ⟨ad2, e1, e2⟩ := (hcj w' hb').out
        obtain rfl := Option.some.inj e1
        exact e2)
      clear hcj z1 hY hcell g1 g2 g3 g4 g5 g6 hAw HWL
      have hY2 : Y < 256 := by omega
      have hs := fun w => cut10k (P := Try.prog) Try.underlying9 .u8 .u8 (R := Y % 10) (Nat.mod_lt _ (by decide)) w
      rw [digit_text (Nat.mod_lt _ (by decide))] at hs
      rw [show ((Y % 10 : Nat) : Int) = (Y : Int) % 10 from by omega] at hs
      have hDs : (str [UInt8.ofNat (48 + Y % 10)]).size = 1 := by rw [str_size]; rfl
      generalize str [UInt8.ofNat (48 + Y % 10)] = Dg at *
      have hadd := fun w => run_string_add_sum (P := Try.prog) w T Dg (by omega)
      have hT2 : (T ++ Dg).size ≤ 1 + (j + 1) := by rw [ByteArray.size_append]; omega
      generalize T ++ Dg = T2 at *
      clear hDs
      go_wp2_with fail
      refine Go.Confl.wp_region_confl (by simp only [List.map_cons, List.map_nil]; rfl) (by kernel_rfl) (by kernel_rfl) ?_
      iterate 15
        first
        | (refine Go.Confl.chain_skip (Go.Confl.unwanted_is rfl rfl) ?_)
        | (first | apply Go.Confl.chain_is _ (Go.Confl.wanted_none rfl) | apply Go.Confl.chain_is _ (Go.Confl.wanted_is rfl rfl)
           · intro b w hr hb K hK
             simp [Go.Confl.readFacts, Go.Confl.tmpsOf, Go.Confl.writerOf, Go.Confl.Is, Op.operands, List.findIdx?, List.findIdx?.go] at hr
             have hcx := (hcj2 _ hb).out
             go_wp2_with fail
             try (simp only [hr]; go_wp2)
             exact hK _ _ rfl (by first | exact Below.refl _ _ | assumption))
        simp only [List.nil_append, List.cons_append]
      intro us w hp hb
      simp [Go.Confl.allPosts, Go.Confl.Is] at hp
      simp only [Go.Confl.putsFrom, hp, Act.put, List.setIfInBounds_toArray, List.set_cons_zero, List.set_cons_succ]
      go_wp2
      exact ⟨⟨T2, j + 1, rfl, by go_num, by omega, by omega, hT2, bel_trans hbw hb⟩, by simp [intOf] <;> omega⟩
    · have G3 := g3 T (by omega)
      have G4 := g4 T (by omega)
      generalize hi (WN T) = pt at *
      generalize lo (WN T) = ut at *
      generalize WC T = ct at *
      have hbB := bel_trans hb0 hbw
      have v4' := v4.step hbw
      clear g3 g4 hcell HWL hT hb0 v4
      have hd : ¬ j < zl.length ∨ (j = 42 ∧ 42 < zl.length) := by omega
      clear hlt hj hjl hbw
      rcases hd with d1 | ⟨rfl, d1⟩
      · go_wp2_with fail
        (with_reducible refine (g1 _).out.mono ?_)
        rintro e w2 ⟨rfl, hb2⟩
        have hq0 := bel_trans hb2 ((Below.refl w2.heap.size w2).alloc (Nat.le_refl _) (.cells #[.int .i64 ps, .int .u64 us] 24))
        replace v4' := v4'.step hq0
        replace hbB := bel_trans hbB hq0
        have y0 := Var2.new w2 (.int .i64 ps) (.int .u64 us) 24
        clear hq0 g1
        go_wp2_with fail
        (with_reducible refine (g2 _).out.mono ?_)
        rintro e w3 ⟨rfl, hb3⟩
        have hq1 := bel_trans hb3 ((Below.refl w3.heap.size w3).alloc (Nat.le_refl _) (.cells #[.int .i64 ps, .int .u64 us] 24))
        replace v4' := v4'.step hq1
        replace y0 := y0.step hq1
        replace hbB := bel_trans hbB hq1
        have y1 := Var2.new w3 (.int .i64 ps) (.int .u64 us) 24
        clear hq1 g2
        go_wp2_with fail
        (with_reducible refine (G3 _).out.mono ?_)
        rintro e w4 ⟨rfl, hb4⟩
        have hq2 := bel_trans hb4 ((Below.refl w4.heap.size w4).alloc (Nat.le_refl _) (.cells #[.int .i64 pt, .int .u64 ut] 24))
        replace v4' := v4'.step hq2
        replace y0 := y0.step hq2
        replace y1 := y1.step hq2
        replace hbB := bel_trans hbB hq2
        have y2 := Var2.new w4 (.int .i64 pt) (.int .u64 ut) 24
        clear hq2 G3
        go_wp2_with fail
        (with_reducible refine (G4 _).out.mono ?_)
        rintro e w5 ⟨rfl, hb5⟩
        have hq3 := bel_trans hb5 ((Below.refl w5.heap.size w5).alloc (Nat.le_refl _) (.cells #[.int .i64 pt, .int .u64 ut] 24))
        replace v4' := v4'.step hq3
        replace y0 := y0.step hq3
        replace y1 := y1.step hq3
        replace y2 := y2.step hq3
        replace hbB := bel_trans hbB hq3
        have y3 := Var2.new w5 (.int .i64 pt) (.int .u64 ut) 24
        clear hq3 G4
        go_wp2_with fail
        have HV := fun (w' : World) (hb : Below (w5.alloc (.cells #[.int .i64 pt, .int .u64 ut] 24)).heap.size (w5.alloc (.cells #[.int .i64 pt, .int .u64 ut] 24)) w') => Lib.hid (And.intro (bel_trans hbB hb) (And.intro (v4'.step hb) (And.intro (y0.step hb) (And.intro (y1.step hb) (And.intro (y2.step hb) (y3.step hb))))))
        clear v4' y0 y1 y2 y3 hbB
        refine Go.Confl.wp_region_confl (by simp only [List.map_cons, List.map_nil]; rfl) (by kernel_rfl) (by kernel_rfl) ?_
        iterate 29
          first
          | (refine Go.Confl.chain_skip (Go.Confl.unwanted_is rfl rfl) ?_)
          | (first | apply Go.Confl.chain_is _ (Go.Confl.wanted_none rfl) | apply Go.Confl.chain_is _ (Go.Confl.wanted_is rfl rfl)
             · intro b w hr hb K hK
               simp [Go.Confl.readFacts, Go.Confl.tmpsOf, Go.Confl.writerOf, Go.Confl.Is, Op.operands, Call.operands, List.findIdx?, List.findIdx?.go] at hr
               obtain ⟨-, ⟨a0, a1, -, -⟩, ⟨c0, c1, -, -⟩, ⟨d0, d1, -, -⟩, ⟨e0, e1, -, -⟩, ⟨f0, f1, -, -⟩⟩ := (HV _ hb).out
               go_wp2_with (first
                 | (go_at_call 17; (with_reducible refine (hAw _).out.mono ?_); rintro e w' ⟨rfl, hb'⟩)
                 | (go_at_call 15; (with_reducible refine (g5 _).out.mono ?_); rintro e w' ⟨rfl, hb'⟩)
                 | (go_at_call 26; (with_reducible refine (g6 _).out.mono ?_); rintro e w' ⟨rfl, hb'⟩))
               try (simp only [hr]; go_wp2)
               exact hK _ _ rfl (by first | exact Below.refl _ _ | assumption))
          simp only [List.nil_append, List.cons_append]
        intro us w hp hb
        simp [Go.Confl.allPosts, Go.Confl.Is] at hp
        simp only [Go.Confl.putsFrom, hp, Act.put, List.setIfInBounds_toArray, List.set_cons_zero, List.set_cons_succ]
        go_wp2
        go_ret
        exact RetB.mk rfl (HV _ hb).out.1
      · go_wp2_with fail
        (with_reducible refine (g1 _).out.mono ?_)
        rintro e w2 ⟨rfl, hb2⟩
        have hq0 := bel_trans hb2 ((Below.refl w2.heap.size w2).alloc (Nat.le_refl _) (.cells #[.int .i64 ps, .int .u64 us] 24))
        replace v4' := v4'.step hq0
        replace hbB := bel_trans hbB hq0
        have y0 := Var2.new w2 (.int .i64 ps) (.int .u64 us) 24
        clear hq0 g1
        go_wp2_with fail
        (with_reducible refine (g2 _).out.mono ?_)
        rintro e w3 ⟨rfl, hb3⟩
        have hq1 := bel_trans hb3 ((Below.refl w3.heap.size w3).alloc (Nat.le_refl _) (.cells #[.int .i64 ps, .int .u64 us] 24))
        replace v4' := v4'.step hq1
        replace y0 := y0.step hq1
        replace hbB := bel_trans hbB hq1
        have y1 := Var2.new w3 (.int .i64 ps) (.int .u64 us) 24
        clear hq1 g2
        go_wp2_with fail
        (with_reducible refine (G3 _).out.mono ?_)
        rintro e w4 ⟨rfl, hb4⟩
        have hq2 := bel_trans hb4 ((Below.refl w4.heap.size w4).alloc (Nat.le_refl _) (.cells #[.int .i64 pt, .int .u64 ut] 24))
        replace v4' := v4'.step hq2
        replace y0 := y0.step hq2
        replace y1 := y1.step hq2
        replace hbB := bel_trans hbB hq2
        have y2 := Var2.new w4 (.int .i64 pt) (.int .u64 ut) 24
        clear hq2 G3
        go_wp2_with fail
        (with_reducible refine (G4 _).out.mono ?_)
        rintro e w5 ⟨rfl, hb5⟩
        have hq3 := bel_trans hb5 ((Below.refl w5.heap.size w5).alloc (Nat.le_refl _) (.cells #[.int .i64 pt, .int .u64 ut] 24))
        replace v4' := v4'.step hq3
        replace y0 := y0.step hq3
        replace y1 := y1.step hq3
        replace y2 := y2.step hq3
        replace hbB := bel_trans hbB hq3
        have y3 := Var2.new w5 (.int .i64 pt) (.int .u64 ut) 24
        clear hq3 G4
        go_wp2_with fail
        have HV := fun (w' : World) (hb : Below (w5.alloc (.cells #[.int .i64 pt, .int .u64 ut] 24)).heap.size (w5.alloc (.cells #[.int .i64 pt, .int .u64 ut] 24)) w') => Lib.hid (And.intro (bel_trans hbB hb) (And.intro (v4'.step hb) (And.intro (y0.step hb) (And.intro (y1.step hb) (And.intro (y2.step hb) (y3.step hb))))))
        clear v4' y0 y1 y2 y3 hbB
        refine Go.Confl.wp_region_confl (by simp only [List.map_cons, List.map_nil]; rfl) (by kernel_rfl) (by kernel_rfl) ?_
        iterate 29
          first
          | (refine Go.Confl.chain_skip (Go.Confl.unwanted_is rfl rfl) ?_)
          | (first | apply Go.Confl.chain_is _ (Go.Confl.wanted_none rfl) | apply Go.Confl.chain_is _ (Go.Confl.wanted_is rfl rfl)
             · intro b w hr hb K hK
               simp [Go.Confl.readFacts, Go.Confl.tmpsOf, Go.Confl.writerOf, Go.Confl.Is, Op.operands, Call.operands, List.findIdx?, List.findIdx?.go] at hr
               obtain ⟨-, ⟨a0, a1, -, -⟩, ⟨c0, c1, -, -⟩, ⟨d0, d1, -, -⟩, ⟨e0, e1, -, -⟩, ⟨f0, f1, -, -⟩⟩ := (HV _ hb).out
               go_wp2_with (first
                 | (go_at_call 17; (with_reducible refine (hAw _).out.mono ?_); rintro e w' ⟨rfl, hb'⟩)
                 | (go_at_call 15; (with_reducible refine (g5 _).out.mono ?_); rintro e w' ⟨rfl, hb'⟩)
                 | (go_at_call 26; (with_reducible refine (g6 _).out.mono ?_); rintro e w' ⟨rfl, hb'⟩))
               try (simp only [hr]; go_wp2)
               exact hK _ _ rfl (by first | exact Below.refl _ _ | assumption))
          simp only [List.nil_append, List.cons_append]
        intro us w hp hb
        simp [Go.Confl.allPosts, Go.Confl.Is] at hp
        simp only [Go.Confl.putsFrom, hp, Act.put, List.setIfInBounds_toArray, List.set_cons_zero, List.set_cons_succ]
        go_wp2
        go_ret
        exact RetB.mk rfl (HV _ hb).out.1

set_option maxRecDepth 100000 in
set_option maxHeartbeats 4000000 in
theorem wideTexts_lifted (os : Os) (started : os.Started) (H : Type) (enc : TypeId × Value → H) :
    ReturnsInHanded {} Try.checked os 8 .any (Rows.wideTextsSpec.pre6 enc Try.prog Try.f8 Rows.wideTextsRow.domain false) (Rows.wideTextsSpec.post enc Try.prog Try.f8 false true false false) := by
  refine law_lifted (C := Try.checked) (tb := 4) started Try.own Try.laidOut (by kernel_rfl) Try.func8
    (ChangeSpec.witness6 (enc := enc) (C := Try.checked) false ⟨#[], #[.agg #[.int .i64 0, .int .u64 0], .string ⟨#[]⟩, .slice none 0 0, .bool false], []⟩ 8 (by kernel_rfl) (by kernel_rfl) (by kernel_rfl) (by kernel_rfl))
    rfl rfl Try.underlying4 (by kernel_rfl) (fun ds h => ?_) (fun W base args ds p hval0 hA0 hsz0 hlt => ?_)
  · have h' : ds.length = Try.f8.params.toList.length := h
    rw [Try.params8] at h'
    match ds, h' with
    | [_, _, _, _], _ => rfl
  · have hval : ∀ (j : Nat) t v, Try.f8.params[j]? = some t → args[j]? = some v → Value.okWide Try.prog W .any base t v := hval0
    have hA : DataW.TrodAll enc Try.prog W 0 (fun _ => true) true Try.f8.params.toList args.toList ds p := hA0
    have hsz : (DataW.weightsEach Try.prog Try.f8.params.toList ds).all (· ≤ reachBytes) = true := hsz0
    rw [Try.params8] at hA hval hsz
    clear hA0 hval0 hsz0
    obtain ⟨v0, vs0, d0, ds0, p0, q0, hargs, rfl, rfl, h0, r0⟩ := trodAll_cons hA
    obtain ⟨v1, vs1, d1, ds1, p1, q1, rfl, rfl, rfl, h1, r1⟩ := trodAll_cons r0
    obtain ⟨v2, vs2, d2, ds2, p2, q2, rfl, rfl, rfl, h2, r2⟩ := trodAll_cons r1
    obtain ⟨v3, vs3, d3, ds3, p3, q3, rfl, rfl, rfl, h3, r3⟩ := trodAll_cons r2
    obtain ⟨rfl, rfl, rfl⟩ := trodAll_nil r3
    obtain rfl : args = #[v0, v1, v2, v3] := by cases args; simp_all
    obtain ⟨a, rfl, wa⟩ := open_wide (hval 0 24 v0 rfl rfl) h0
    obtain ⟨s, rfl, rfl, rfl, _⟩ := open_string Try.underlying9 (hval 1 9 v1 rfl rfl) h1
    have zs : s.size ≤ 140737488351232 := by have h := sized_string hsz (j := 1) (t := 9) rfl rfl; rw [size_list] at h; exact h
    obtain ⟨zl, rl, wl, bl⟩ := open_rdI Try.underlying38 Try.underlying5 (by kernel_rfl) (hval 2 38 v2 rfl rfl) h2 hsz (j := 2) rfl rfl
    obtain ⟨neg, rfl, rfl, rfl⟩ := open_bool Try.underlying4 (hval 3 4 v3 rfl rfl) h3
    change Calls Try.prog 8 #[wd a, .string s, v2, .bool neg] W (RetB (.bool true) W)
    obtain ⟨A, cap, rfl, hcap, hmx, hrr⟩ := rl
    unfold maxLen at hmx
    cases neg
    · exact texts_pos a s A cap zl W wa zs (by omega) hrr wl
    · exact texts_neg a s A cap zl W wa zs (by omega) hrr wl
theorem wideTexts_holds : Rows.WideTextsSaid :=
  OpenClaim.holds_of_wide 8 Try.f8 rfl rfl rfl rfl rfl rfl rfl ⟨rfl, rfl, rfl, rfl, rfl⟩ rfl rfl rfl rfl rfl (by kernel_rfl) Try.func8 (by kernel_rfl)
    (of_decide_eq_true (by kernel_rfl)) (by unfold Func.isWrapper; first | (rw [if_pos (by decide +kernel)]; kernel_rfl) | (rw [if_neg (by decide +kernel)]; exact ⟨rfl, rfl⟩))
    (fun os started H enc _ => wideTexts_lifted os started H enc)
end Go.Proofs.Ytollobhkdbodlaa
