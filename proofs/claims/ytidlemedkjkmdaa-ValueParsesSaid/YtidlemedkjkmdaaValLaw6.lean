/- ValueParses: Parse returns the specified value or error for arbitrary texts and for texts of typical words. No condition. -/
import Derived.Test.YtidlemedkjkmdaaValN2
import Derived.Test.YtidlemedkjkmdaaValP
namespace Go.Proofs.Ytidlemedkjkmdaa
open Go.RowKit Go.VB Go.VL Go.ChangeShapes Go.WideShapes Go.ChangeAt
open Go.ChangeMaps (open_string)
set_option linter.constructorNameAsVariable false
theorem PR.spell (g : PR) : g.val = .tuple #[.agg #[.bool g.nul, .int .i64 g.n, .string g.s], .int .i64 (g.e : Int)] := rfl
set_option maxRecDepth 100000 in
set_option maxHeartbeats 8000000 in
theorem parses_walk (cnm : ByteArray) (cty csc : Int) (cnu : Bool) (s : ByteArray) (t k : Int) (null : Bool) (v5 : Value) (zl : List Int) (W : World) (zs : s.size ≤ 140737488351232) (wt : (Lit.int .i64 t).wf = true) (wk : (Lit.int .i64 k).wf = true)
    (rl : RdI .u8 W W.heap.size v5 zl) (wl : ∀ z ∈ zl, (Lit.int .u8 z).wf = true) :
    Calls Try.prog 6 #[(.agg #[.string cnm, .int .i64 cty, .int .i64 csc, .bool cnu]), .string s, .int .i64 t, .int .i64 k, .bool null, v5] W (RetB (.bool true) W) := by
  have HCC := fun w => Lib.hid (col_any t k null w wt wk)
  have hAw := fun w => Lib.hid (awakeV_any w)
  generalize ctyp t = dty at *
  generalize cscale t k = dsc at *
  generalize xs = X at *
  have HA := fun w => Lib.hid (vParse_any cnm cty csc cnu s w zs)
  have HB := fun w => Lib.hid (rParse_any cnm cty csc cnu s w zs)
  have HE := fun w => Lib.hid (vParse_any X dty dsc null s w zs)
  have HF := fun w => Lib.hid (rParse_any X dty dsc null s w zs)
  have HCD : ∀ T : ByteArray, T.size ≤ 456 → (∀ w, Hid (Calls Try.prog 17 #[(.agg #[.string X, .int .i64 dty, .int .i64 dsc, .bool null]), .string T] w (RetB (prs dty dsc null T).val w))) ∧ (∀ w, Hid (Calls Try.prog 18 #[(.agg #[.string X, .int .i64 dty, .int .i64 dsc, .bool null]), .string T] w (RetB (prs dty dsc null T).val w))) := fun T hT =>
    ⟨fun w => Lib.hid (vParse_any X dty dsc null T w (by omega)), fun w => Lib.hid (rParse_any X dty dsc null T w (by omega))⟩
  rw [PR.spell] at HA HB HE HF
  generalize prs cty csc cnu s = g1 at *
  generalize prs dty dsc null s = g3 at *
  obtain ⟨b1, z1, s1, e1⟩ := g1
  obtain ⟨b3, z3, s3, e3⟩ := g3
  obtain ⟨A, cap, rfl, hcap, hmx, hrr⟩ := rl
  have hVc := Var4.new W (.string cnm) (.int .i64 cty) (.int .i64 csc) (.bool cnu) 23
  clear wt wk zs
  go_enter Try.func6, Try.ntmps6
  go_wp2_with fail
  refine (HCC _).out.mono ?_
  rintro e w1 ⟨rfl, hb1⟩
  replace hVc := hVc.step hb1
  have hB : Below W.heap.size W w1 := bel_trans (by go_grown) hb1
  clear hb1 HCC
  go_wp2_with fail
  have hVd := Var4.new w1 (.string X) (.int .i64 dty) (.int .i64 dsc) (.bool null) 23
  have hb2 := (Below.refl w1.heap.size w1).alloc (Nat.le_refl _) (.cells #[.string X, .int .i64 dty, .int .i64 dsc, .bool null] 23)
  replace hVc := hVc.step hb2
  replace hB := bel_trans hB hb2
  clear hb2
  generalize w1.heap.size = d0 at *
  generalize w1.alloc (.cells #[.string X, .int .i64 dty, .int .i64 dsc, .bool null] 23) = w2 at *
  have hV := fun (w : World) (hb : Below w2.heap.size w2 w) => Lib.hid (And.intro (And.intro (bel_trans hB hb) (hVc.step hb)) (hVd.step hb))
  have hcell : ∀ (w : World), Below w2.heap.size w2 w → Hid (∀ i, i < zl.length → ∃ ad, A = some ad ∧ w.cell? (ad.add i) = some (.int .u8 (zl.getD i 0))) := fun w hb => Lib.hid fun i hi => by
    obtain ⟨ad, h1, h2, h3⟩ := hrr i hi
    refine ⟨ad, h1, ?_⟩
    rw [(bel_trans hB hb).cell (by rw [Go.VB.block_add]; exact h2)]; exact h3
  have HWL := Lib.hid wl
  clear hVc hVd hB hrr wl
  unfold maxLen at hmx
  have hlen : zl.length ≤ 9223372036854775807 := by omega
  clear hmx hcap
  go_loopw [14, 15] (fun x i wr => ∃ (T : ByteArray) (j : Nat), x = .string T ∧ i = .int .i64 (j : Int) ∧ j ≤ 24 ∧ j ≤ zl.length ∧ T.size ≤ 19 * j ∧ Below w2.heap.size w2 wr) (fun _ i _ => 24 - (intOf i).toNat)
  case atStart => exact ⟨⟨#[]⟩, 0, rfl, rfl, by omega, by omega, by decide, Below.refl _ _⟩
  case round =>
    obtain ⟨T, j, rfl, rfl, hj, hjl, hT, hb⟩ := hrel
    by_cases hlt : j < zl.length ∧ j < 24
    · obtain ⟨h1, h2⟩ := hlt
      obtain ⟨ad, rfl, hac⟩ := (hcell _ hb).out j h1
      have hac' : ∀ o, (wr.alloc o).cell? (ad.add j) = some (.int .u8 (zl.getD j 0)) := fun o => by
        obtain ⟨a2, h3, h4⟩ := (hcell (wr.alloc o) (hb.alloc hb.size o)).out j h1
        obtain rfl := Option.some.inj h3
        exact h4
      obtain ⟨z1', z2'⟩ := bounds_u8 (HWL.out _ (get_mem_int h1))
      generalize zl.getD j 0 = z at *
      have htm : z.tmod 14 = z % 14 := Int.tmod_eq_emod_of_nonneg z1'
      have hadd : ∀ (b : ByteArray), b.size ≤ 19 → Hid (∀ w, (Op.stringOp .add T b).run Try.prog w = .ok (.string (T ++ b)) w) := fun b hb => Lib.hid fun w => run_string_add_sum w _ _ (by omega)
      have hsz : ∀ (b : ByteArray), b.size ≤ 19 → Hid ((T ++ b).size ≤ 19 * (j + 1)) := fun b hb => Lib.hid (by rw [ByteArray.size_append]; omega)
      have h14 : z % 14 = 0 ∨ z % 14 = 1 ∨ z % 14 = 2 ∨ z % 14 = 3 ∨ z % 14 = 4 ∨ z % 14 = 5 ∨ z % 14 = 6 ∨ z % 14 = 7 ∨ z % 14 = 8 ∨ z % 14 = 9 ∨ z % 14 = 10 ∨ z % 14 = 11 ∨ z % 14 = 12 ∨ z % 14 = 13 := by omega
      clear hV hcell HA HB HE HF HCD hAw hT
      rcases h14 with h | h | h | h | h | h | h | h | h | h | h | h | h | h
      · have ha := (hadd ⟨#[110, 117, 108, 108]⟩ (by decide)).out
        have hs := hsz ⟨#[110, 117, 108, 108]⟩ (by decide)
        clear hadd hsz
        go_wp2
        exact ⟨⟨_, j + 1, rfl, by go_num, by omega, by omega, hs.out, hb.alloc hb.size _⟩, by simp [intOf] <;> omega⟩
      · have ha := (hadd ⟨#[116, 114, 117, 101]⟩ (by decide)).out
        have hs := hsz ⟨#[116, 114, 117, 101]⟩ (by decide)
        clear hadd hsz
        go_wp2
        exact ⟨⟨_, j + 1, rfl, by go_num, by omega, by omega, hs.out, hb.alloc hb.size _⟩, by simp [intOf] <;> omega⟩
      · have ha := (hadd ⟨#[102, 97, 108, 115, 101]⟩ (by decide)).out
        have hs := hsz ⟨#[102, 97, 108, 115, 101]⟩ (by decide)
        clear hadd hsz
        go_wp2
        exact ⟨⟨_, j + 1, rfl, by go_num, by omega, by omega, hs.out, hb.alloc hb.size _⟩, by simp [intOf] <;> omega⟩
      · have ha := (hadd ⟨#[48]⟩ (by decide)).out
        have hs := hsz ⟨#[48]⟩ (by decide)
        clear hadd hsz
        go_wp2
        exact ⟨⟨_, j + 1, rfl, by go_num, by omega, by omega, hs.out, hb.alloc hb.size _⟩, by simp [intOf] <;> omega⟩
      · have ha := (hadd ⟨#[49]⟩ (by decide)).out
        have hs := hsz ⟨#[49]⟩ (by decide)
        clear hadd hsz
        go_wp2
        exact ⟨⟨_, j + 1, rfl, by go_num, by omega, by omega, hs.out, hb.alloc hb.size _⟩, by simp [intOf] <;> omega⟩
      · have ha := (hadd ⟨#[57]⟩ (by decide)).out
        have hs := hsz ⟨#[57]⟩ (by decide)
        clear hadd hsz
        go_wp2
        exact ⟨⟨_, j + 1, rfl, by go_num, by omega, by omega, hs.out, hb.alloc hb.size _⟩, by simp [intOf] <;> omega⟩
      · have ha := (hadd ⟨#[45]⟩ (by decide)).out
        have hs := hsz ⟨#[45]⟩ (by decide)
        clear hadd hsz
        go_wp2
        exact ⟨⟨_, j + 1, rfl, by go_num, by omega, by omega, hs.out, hb.alloc hb.size _⟩, by simp [intOf] <;> omega⟩
      · have ha := (hadd ⟨#[46]⟩ (by decide)).out
        have hs := hsz ⟨#[46]⟩ (by decide)
        clear hadd hsz
        go_wp2
        exact ⟨⟨_, j + 1, rfl, by go_num, by omega, by omega, hs.out, hb.alloc hb.size _⟩, by simp [intOf] <;> omega⟩
      · have ha := (hadd ⟨#[34]⟩ (by decide)).out
        have hs := hsz ⟨#[34]⟩ (by decide)
        clear hadd hsz
        go_wp2
        exact ⟨⟨_, j + 1, rfl, by go_num, by omega, by omega, hs.out, hb.alloc hb.size _⟩, by simp [intOf] <;> omega⟩
      · have ha := (hadd ⟨#[97]⟩ (by decide)).out
        have hs := hsz ⟨#[97]⟩ (by decide)
        clear hadd hsz
        go_wp2
        exact ⟨⟨_, j + 1, rfl, by go_num, by omega, by omega, hs.out, hb.alloc hb.size _⟩, by simp [intOf] <;> omega⟩
      · have ha := (hadd ⟨#[102, 48]⟩ (by decide)).out
        have hs := hsz ⟨#[102, 48]⟩ (by decide)
        clear hadd hsz
        go_wp2
        exact ⟨⟨_, j + 1, rfl, by go_num, by omega, by omega, hs.out, hb.alloc hb.size _⟩, by simp [intOf] <;> omega⟩
      · have ha := (hadd ⟨#[50, 48, 48, 49, 45, 48, 50, 45, 48, 51]⟩ (by decide)).out
        have hs := hsz ⟨#[50, 48, 48, 49, 45, 48, 50, 45, 48, 51]⟩ (by decide)
        clear hadd hsz
        go_wp2
        exact ⟨⟨_, j + 1, rfl, by go_num, by omega, by omega, hs.out, hb.alloc hb.size _⟩, by simp [intOf] <;> omega⟩
      · have ha := (hadd ⟨#[57, 50, 50, 51, 51, 55, 50, 48, 51, 54, 56, 53, 52, 55, 55, 53, 56, 48, 55]⟩ (by decide)).out
        have hs := hsz ⟨#[57, 50, 50, 51, 51, 55, 50, 48, 51, 54, 56, 53, 52, 55, 55, 53, 56, 48, 55]⟩ (by decide)
        clear hadd hsz
        go_wp2
        exact ⟨⟨_, j + 1, rfl, by go_num, by omega, by omega, hs.out, hb.alloc hb.size _⟩, by simp [intOf] <;> omega⟩
      · have ha := (hadd ⟨#[120]⟩ (by decide)).out
        have hs := hsz ⟨#[120]⟩ (by decide)
        clear hadd hsz
        go_wp2
        exact ⟨⟨_, j + 1, rfl, by go_num, by omega, by omega, hs.out, hb.alloc hb.size _⟩, by simp [intOf] <;> omega⟩
    · have hd : (decide ((j : Int) < (zl.length : Int)) = false) ∨ (decide ((j : Int) < (zl.length : Int)) = true ∧ decide ((j : Int) < 24) = false) := by
        by_cases h1 : j < zl.length
        · exact .inr ⟨decide_eq_true (by omega), decide_eq_false (by omega)⟩
        · exact .inl (decide_eq_false (by omega))
      obtain ⟨HC, HD⟩ := HCD T (by omega)
      rw [PR.spell] at HC HD
      generalize prs dty dsc null T = g2 at *
      obtain ⟨b2, z2, s2, e2⟩ := g2
      have hV0 := fun (w : World) (hbw : Below wr.heap.size wr w) => hV w (bel_trans hb hbw)
      clear hV hcell HCD hlt
      have hV := hV0
      clear hV0
      have hRB : ∀ (w : World), Below w2.heap.size w2 w → True := fun _ _ => trivial
      clear hRB
      obtain ⟨⟨_, k0, k1, k2, k3⟩, m0, m1, m2, m3⟩ := (hV wr (Below.refl _ _)).out
      clear hb
      have hd2 : decide ((j : Int) < (zl.length : Int)) = false ∨ j = 24 := by
        rcases hd with hd | ⟨_, hd'⟩
        · exact .inl hd
        · exact .inr (by have := of_decide_eq_false hd'; omega)
      clear hd
      rcases hd2 with hd | hd
      rotate_left
      · subst hd
        have hd : (24 : Int) < (zl.length : Int) ∨ ¬ (24 : Int) < (zl.length : Int) := Decidable.em _
        obtain hd | hd := hd
        all_goals
          go_wp2_with fail
          refine (HA _).out.mono ?_
          rintro e w' ⟨rfl, hb1⟩
          have hb2 := (Below.refl w'.heap.size w').alloc (Nat.le_refl _) (.cells #[.bool b1, .int .i64 z1, .string s1] 25)
          have V := Var3.new w' (.bool b1) (.int .i64 z1) (.string s1) 25
          have hV2 := fun (w : World) (hb : Below (w'.alloc (.cells #[.bool b1, .int .i64 z1, .string s1] 25)).heap.size (w'.alloc (.cells #[.bool b1, .int .i64 z1, .string s1] 25)) w) => Lib.hid (And.intro (hV w (bel_trans (bel_trans hb1 hb2) hb)).out (V.step hb))
          clear hV V hb1 hb2
          have hV := hV2
          clear hV2
          obtain ⟨k0, k1, k2, k3⟩ := (hV _ (Below.refl _ _)).out.1.1.2
          obtain ⟨m0, m1, m2, m3⟩ := (hV _ (Below.refl _ _)).out.1.2
          go_wp2_with fail
          generalize w'.heap.size = d0 at *
          generalize w'.alloc (.cells #[.bool b1, .int .i64 z1, .string s1] 25) = wn0 at *
          refine (HB _).out.mono ?_
          rintro e w' ⟨rfl, hb1⟩
          have hb2 := (Below.refl w'.heap.size w').alloc (Nat.le_refl _) (.cells #[.bool b1, .int .i64 z1, .string s1] 25)
          have V := Var3.new w' (.bool b1) (.int .i64 z1) (.string s1) 25
          have hV2 := fun (w : World) (hb : Below (w'.alloc (.cells #[.bool b1, .int .i64 z1, .string s1] 25)).heap.size (w'.alloc (.cells #[.bool b1, .int .i64 z1, .string s1] 25)) w) => Lib.hid (And.intro (hV w (bel_trans (bel_trans hb1 hb2) hb)).out (V.step hb))
          clear hV V hb1 hb2
          have hV := hV2
          clear hV2
          obtain ⟨k0, k1, k2, k3⟩ := (hV _ (Below.refl _ _)).out.1.1.1.2
          obtain ⟨m0, m1, m2, m3⟩ := (hV _ (Below.refl _ _)).out.1.1.2
          go_wp2_with fail
          generalize w'.heap.size = d1 at *
          generalize w'.alloc (.cells #[.bool b1, .int .i64 z1, .string s1] 25) = wn1 at *
          refine (HC _).out.mono ?_
          rintro e w' ⟨rfl, hb1⟩
          have hb2 := (Below.refl w'.heap.size w').alloc (Nat.le_refl _) (.cells #[.bool b2, .int .i64 z2, .string s2] 25)
          have V := Var3.new w' (.bool b2) (.int .i64 z2) (.string s2) 25
          have hV2 := fun (w : World) (hb : Below (w'.alloc (.cells #[.bool b2, .int .i64 z2, .string s2] 25)).heap.size (w'.alloc (.cells #[.bool b2, .int .i64 z2, .string s2] 25)) w) => Lib.hid (And.intro (hV w (bel_trans (bel_trans hb1 hb2) hb)).out (V.step hb))
          clear hV V hb1 hb2
          have hV := hV2
          clear hV2
          obtain ⟨k0, k1, k2, k3⟩ := (hV _ (Below.refl _ _)).out.1.1.1.1.2
          obtain ⟨m0, m1, m2, m3⟩ := (hV _ (Below.refl _ _)).out.1.1.1.2
          go_wp2_with fail
          generalize w'.heap.size = d2 at *
          generalize w'.alloc (.cells #[.bool b2, .int .i64 z2, .string s2] 25) = wn2 at *
          refine (HD _).out.mono ?_
          rintro e w' ⟨rfl, hb1⟩
          have hb2 := (Below.refl w'.heap.size w').alloc (Nat.le_refl _) (.cells #[.bool b2, .int .i64 z2, .string s2] 25)
          have V := Var3.new w' (.bool b2) (.int .i64 z2) (.string s2) 25
          have hV2 := fun (w : World) (hb : Below (w'.alloc (.cells #[.bool b2, .int .i64 z2, .string s2] 25)).heap.size (w'.alloc (.cells #[.bool b2, .int .i64 z2, .string s2] 25)) w) => Lib.hid (And.intro (hV w (bel_trans (bel_trans hb1 hb2) hb)).out (V.step hb))
          clear hV V hb1 hb2
          have hV := hV2
          clear hV2
          obtain ⟨k0, k1, k2, k3⟩ := (hV _ (Below.refl _ _)).out.1.1.1.1.1.2
          obtain ⟨m0, m1, m2, m3⟩ := (hV _ (Below.refl _ _)).out.1.1.1.1.2
          go_wp2_with fail
          generalize w'.heap.size = d3 at *
          generalize w'.alloc (.cells #[.bool b2, .int .i64 z2, .string s2] 25) = wn3 at *
          refine (HE _).out.mono ?_
          rintro e w' ⟨rfl, hb1⟩
          have hb2 := (Below.refl w'.heap.size w').alloc (Nat.le_refl _) (.cells #[.bool b3, .int .i64 z3, .string s3] 25)
          have V := Var3.new w' (.bool b3) (.int .i64 z3) (.string s3) 25
          have hV2 := fun (w : World) (hb : Below (w'.alloc (.cells #[.bool b3, .int .i64 z3, .string s3] 25)).heap.size (w'.alloc (.cells #[.bool b3, .int .i64 z3, .string s3] 25)) w) => Lib.hid (And.intro (hV w (bel_trans (bel_trans hb1 hb2) hb)).out (V.step hb))
          clear hV V hb1 hb2
          have hV := hV2
          clear hV2
          obtain ⟨k0, k1, k2, k3⟩ := (hV _ (Below.refl _ _)).out.1.1.1.1.1.1.2
          obtain ⟨m0, m1, m2, m3⟩ := (hV _ (Below.refl _ _)).out.1.1.1.1.1.2
          go_wp2_with fail
          generalize w'.heap.size = d4 at *
          generalize w'.alloc (.cells #[.bool b3, .int .i64 z3, .string s3] 25) = wn4 at *
          refine (HF _).out.mono ?_
          rintro e w' ⟨rfl, hb1⟩
          have hb2 := (Below.refl w'.heap.size w').alloc (Nat.le_refl _) (.cells #[.bool b3, .int .i64 z3, .string s3] 25)
          have V := Var3.new w' (.bool b3) (.int .i64 z3) (.string s3) 25
          have hV2 := fun (w : World) (hb : Below (w'.alloc (.cells #[.bool b3, .int .i64 z3, .string s3] 25)).heap.size (w'.alloc (.cells #[.bool b3, .int .i64 z3, .string s3] 25)) w) => Lib.hid (And.intro (hV w (bel_trans (bel_trans hb1 hb2) hb)).out (V.step hb))
          clear hV V hb1 hb2
          have hV := hV2
          clear hV2
          obtain ⟨k0, k1, k2, k3⟩ := (hV _ (Below.refl _ _)).out.1.1.1.1.1.1.1.2
          obtain ⟨m0, m1, m2, m3⟩ := (hV _ (Below.refl _ _)).out.1.1.1.1.1.1.2
          go_wp2_with fail
          generalize w'.heap.size = d5 at *
          generalize w'.alloc (.cells #[.bool b3, .int .i64 z3, .string s3] 25) = wn5 at *
          refine (hAw _).out.mono ?_
          rintro e w' ⟨rfl, hb1⟩
          have hVV := (hV _ hb1).out
          clear hV hb1 HA HB HC HD HE HF hAw
          obtain ⟨⟨⟨⟨⟨⟨⟨⟨hB, _⟩, _⟩, p0, p1, p2, _, _, _⟩, q0, q1, q2, _, _, _⟩, r0, r1, r2, _, _, _⟩, t0, t1, t2, _, _, _⟩, u0, u1, u2, _, _, _⟩, x0, x1, x2, _, _, _⟩ := hVV
          go_wp2
          go_ret
          exact RetB.mk rfl hB
      · have hdn : zl.length ≤ j := by have := of_decide_eq_false hd; omega
        have hdi : (zl.length : Int) ≤ (j : Int) := by omega
        clear hd hjl
        go_wp2_with fail
        refine (HA _).out.mono ?_
        rintro e w' ⟨rfl, hb1⟩
        have hb2 := (Below.refl w'.heap.size w').alloc (Nat.le_refl _) (.cells #[.bool b1, .int .i64 z1, .string s1] 25)
        have V := Var3.new w' (.bool b1) (.int .i64 z1) (.string s1) 25
        have hV2 := fun (w : World) (hb : Below (w'.alloc (.cells #[.bool b1, .int .i64 z1, .string s1] 25)).heap.size (w'.alloc (.cells #[.bool b1, .int .i64 z1, .string s1] 25)) w) => Lib.hid (And.intro (hV w (bel_trans (bel_trans hb1 hb2) hb)).out (V.step hb))
        clear hV V hb1 hb2
        have hV := hV2
        clear hV2
        obtain ⟨k0, k1, k2, k3⟩ := (hV _ (Below.refl _ _)).out.1.1.2
        obtain ⟨m0, m1, m2, m3⟩ := (hV _ (Below.refl _ _)).out.1.2
        go_wp2_with fail
        generalize w'.heap.size = d0 at *
        generalize w'.alloc (.cells #[.bool b1, .int .i64 z1, .string s1] 25) = wn0 at *
        refine (HB _).out.mono ?_
        rintro e w' ⟨rfl, hb1⟩
        have hb2 := (Below.refl w'.heap.size w').alloc (Nat.le_refl _) (.cells #[.bool b1, .int .i64 z1, .string s1] 25)
        have V := Var3.new w' (.bool b1) (.int .i64 z1) (.string s1) 25
        have hV2 := fun (w : World) (hb : Below (w'.alloc (.cells #[.bool b1, .int .i64 z1, .string s1] 25)).heap.size (w'.alloc (.cells #[.bool b1, .int .i64 z1, .string s1] 25)) w) => Lib.hid (And.intro (hV w (bel_trans (bel_trans hb1 hb2) hb)).out (V.step hb))
        clear hV V hb1 hb2
        have hV := hV2
        clear hV2
        obtain ⟨k0, k1, k2, k3⟩ := (hV _ (Below.refl _ _)).out.1.1.1.2
        obtain ⟨m0, m1, m2, m3⟩ := (hV _ (Below.refl _ _)).out.1.1.2
        go_wp2_with fail
        generalize w'.heap.size = d1 at *
        generalize w'.alloc (.cells #[.bool b1, .int .i64 z1, .string s1] 25) = wn1 at *
        refine (HC _).out.mono ?_
        rintro e w' ⟨rfl, hb1⟩
        have hb2 := (Below.refl w'.heap.size w').alloc (Nat.le_refl _) (.cells #[.bool b2, .int .i64 z2, .string s2] 25)
        have V := Var3.new w' (.bool b2) (.int .i64 z2) (.string s2) 25
        have hV2 := fun (w : World) (hb : Below (w'.alloc (.cells #[.bool b2, .int .i64 z2, .string s2] 25)).heap.size (w'.alloc (.cells #[.bool b2, .int .i64 z2, .string s2] 25)) w) => Lib.hid (And.intro (hV w (bel_trans (bel_trans hb1 hb2) hb)).out (V.step hb))
        clear hV V hb1 hb2
        have hV := hV2
        clear hV2
        obtain ⟨k0, k1, k2, k3⟩ := (hV _ (Below.refl _ _)).out.1.1.1.1.2
        obtain ⟨m0, m1, m2, m3⟩ := (hV _ (Below.refl _ _)).out.1.1.1.2
        go_wp2_with fail
        generalize w'.heap.size = d2 at *
        generalize w'.alloc (.cells #[.bool b2, .int .i64 z2, .string s2] 25) = wn2 at *
        refine (HD _).out.mono ?_
        rintro e w' ⟨rfl, hb1⟩
        have hb2 := (Below.refl w'.heap.size w').alloc (Nat.le_refl _) (.cells #[.bool b2, .int .i64 z2, .string s2] 25)
        have V := Var3.new w' (.bool b2) (.int .i64 z2) (.string s2) 25
        have hV2 := fun (w : World) (hb : Below (w'.alloc (.cells #[.bool b2, .int .i64 z2, .string s2] 25)).heap.size (w'.alloc (.cells #[.bool b2, .int .i64 z2, .string s2] 25)) w) => Lib.hid (And.intro (hV w (bel_trans (bel_trans hb1 hb2) hb)).out (V.step hb))
        clear hV V hb1 hb2
        have hV := hV2
        clear hV2
        obtain ⟨k0, k1, k2, k3⟩ := (hV _ (Below.refl _ _)).out.1.1.1.1.1.2
        obtain ⟨m0, m1, m2, m3⟩ := (hV _ (Below.refl _ _)).out.1.1.1.1.2
        go_wp2_with fail
        generalize w'.heap.size = d3 at *
        generalize w'.alloc (.cells #[.bool b2, .int .i64 z2, .string s2] 25) = wn3 at *
        refine (HE _).out.mono ?_
        rintro e w' ⟨rfl, hb1⟩
        have hb2 := (Below.refl w'.heap.size w').alloc (Nat.le_refl _) (.cells #[.bool b3, .int .i64 z3, .string s3] 25)
        have V := Var3.new w' (.bool b3) (.int .i64 z3) (.string s3) 25
        have hV2 := fun (w : World) (hb : Below (w'.alloc (.cells #[.bool b3, .int .i64 z3, .string s3] 25)).heap.size (w'.alloc (.cells #[.bool b3, .int .i64 z3, .string s3] 25)) w) => Lib.hid (And.intro (hV w (bel_trans (bel_trans hb1 hb2) hb)).out (V.step hb))
        clear hV V hb1 hb2
        have hV := hV2
        clear hV2
        obtain ⟨k0, k1, k2, k3⟩ := (hV _ (Below.refl _ _)).out.1.1.1.1.1.1.2
        obtain ⟨m0, m1, m2, m3⟩ := (hV _ (Below.refl _ _)).out.1.1.1.1.1.2
        go_wp2_with fail
        generalize w'.heap.size = d4 at *
        generalize w'.alloc (.cells #[.bool b3, .int .i64 z3, .string s3] 25) = wn4 at *
        refine (HF _).out.mono ?_
        rintro e w' ⟨rfl, hb1⟩
        have hb2 := (Below.refl w'.heap.size w').alloc (Nat.le_refl _) (.cells #[.bool b3, .int .i64 z3, .string s3] 25)
        have V := Var3.new w' (.bool b3) (.int .i64 z3) (.string s3) 25
        have hV2 := fun (w : World) (hb : Below (w'.alloc (.cells #[.bool b3, .int .i64 z3, .string s3] 25)).heap.size (w'.alloc (.cells #[.bool b3, .int .i64 z3, .string s3] 25)) w) => Lib.hid (And.intro (hV w (bel_trans (bel_trans hb1 hb2) hb)).out (V.step hb))
        clear hV V hb1 hb2
        have hV := hV2
        clear hV2
        obtain ⟨k0, k1, k2, k3⟩ := (hV _ (Below.refl _ _)).out.1.1.1.1.1.1.1.2
        obtain ⟨m0, m1, m2, m3⟩ := (hV _ (Below.refl _ _)).out.1.1.1.1.1.1.2
        go_wp2_with fail
        generalize w'.heap.size = d5 at *
        generalize w'.alloc (.cells #[.bool b3, .int .i64 z3, .string s3] 25) = wn5 at *
        refine (hAw _).out.mono ?_
        rintro e w' ⟨rfl, hb1⟩
        have hVV := (hV _ hb1).out
        clear hV hb1 HA HB HC HD HE HF hAw
        obtain ⟨⟨⟨⟨⟨⟨⟨⟨hB, _⟩, _⟩, p0, p1, p2, _, _, _⟩, q0, q1, q2, _, _, _⟩, r0, r1, r2, _, _, _⟩, t0, t1, t2, _, _, _⟩, u0, u1, u2, _, _, _⟩, x0, x1, x2, _, _, _⟩ := hVV
        go_wp2
        go_ret
        exact RetB.mk rfl hB
set_option maxRecDepth 100000 in
set_option maxHeartbeats 4000000 in
theorem valueParses_lifted (os : Os) (started : os.Started) (H : Type) (enc : TypeId × Value → H) :
    ReturnsInHanded {} Try.checked os 6 .any (Rows.valueParsesSpec.pre6 enc Try.prog Try.f6 Rows.valueParsesRow.domain false) (Rows.valueParsesSpec.post enc Try.prog Try.f6 false true false false) := by
  refine law_lifted (C := Try.checked) (tb := 4) started Try.own Try.laidOut (by kernel_rfl) Try.func6
    (ChangeSpec.witness6 (enc := enc) (C := Try.checked) false ⟨#[], #[.agg #[.string ⟨#[]⟩, .int .i64 0, .int .i64 0, .bool false], .string ⟨#[]⟩, .int .i64 0, .int .i64 0, .bool false, .slice none 0 0], []⟩ 8 (by kernel_rfl) (by kernel_rfl) (by kernel_rfl) (by kernel_rfl))
    rfl rfl Try.underlying4 (by kernel_rfl) (fun ds h => ?_) (fun W base args ds p hval0 hA0 hsz0 hlt => ?_)
  · have h' : ds.length = Try.f6.params.toList.length := h
    rw [Try.params6] at h'
    match ds, h' with
    | [_, _, _, _, _, _], _ => rfl
  · have hval : ∀ (j : Nat) t v, Try.f6.params[j]? = some t → args[j]? = some v → Value.okWide Try.prog W .any base t v := hval0
    have hA : DataW.TrodAll enc Try.prog W 0 (fun _ => true) true Try.f6.params.toList args.toList ds p := hA0
    have hsz : (DataW.weightsEach Try.prog Try.f6.params.toList ds).all (· ≤ reachBytes) = true := hsz0
    rw [Try.params6] at hA hval hsz
    clear hA0 hval0 hsz0
    obtain ⟨v0, vs0, d0, ds0, p0, q0, hargs, rfl, rfl, h0, r0⟩ := trodAll_cons hA
    obtain ⟨v1, vs1, d1, ds1, p1, q1, rfl, rfl, rfl, h1, r1⟩ := trodAll_cons r0
    obtain ⟨v2, vs2, d2, ds2, p2, q2, rfl, rfl, rfl, h2, r2⟩ := trodAll_cons r1
    obtain ⟨v3, vs3, d3, ds3, p3, q3, rfl, rfl, rfl, h3, r3⟩ := trodAll_cons r2
    obtain ⟨v4, vs4, d4, ds4, p4, q4, rfl, rfl, rfl, h4, r4⟩ := trodAll_cons r3
    obtain ⟨v5, vs5, d5, ds5, p5, q5, rfl, rfl, rfl, h5, r5⟩ := trodAll_cons r4
    obtain ⟨rfl, rfl, rfl⟩ := trodAll_nil r5
    obtain rfl : args = #[v0, v1, v2, v3, v4, v5] := by cases args; simp_all
    obtain ⟨cnm, cty, csc, cnu, rfl, wcty, wcsc, zcnm⟩ := open_col (hval 0 23 v0 rfl rfl) h0
    obtain ⟨s, rfl, rfl, rfl, _⟩ := open_string Try.underlying9 (hval 1 9 v1 rfl rfl) h1
    have zs : s.size ≤ 140737488351232 := by have h := sized_string hsz (j := 1) (t := 9) rfl rfl; rw [size_list] at h; exact h
    obtain ⟨t, rfl, rfl, rfl, wt⟩ := open_int Try.underlying3 (hval 2 3 v2 rfl rfl) h2
    obtain ⟨k, rfl, rfl, rfl, wk⟩ := open_int Try.underlying3 (hval 3 3 v3 rfl rfl) h3
    obtain ⟨null, rfl, rfl, rfl⟩ := open_bool Try.underlying4 (hval 4 4 v4 rfl rfl) h4
    obtain ⟨zl, rl, wl, bl⟩ := open_rdI Try.underlying37 Try.underlying5 (by kernel_rfl) (hval 5 37 v5 rfl rfl) h5 hsz (j := 5) rfl rfl
    change Calls Try.prog 6 #[(.agg #[.string cnm, .int .i64 cty, .int .i64 csc, .bool cnu]), .string s, .int .i64 t, .int .i64 k, .bool null, v5] W (RetB (.bool true) W)
    exact parses_walk cnm cty csc cnu s t k null v5 zl W zs wt wk rl wl
theorem valueParses_holds : Rows.ValueParsesSaid :=
  OpenClaim.holds_of_wide 6 Try.f6 rfl rfl rfl rfl rfl rfl rfl ⟨rfl, rfl, rfl, rfl, rfl⟩ rfl rfl rfl rfl rfl (by kernel_rfl) Try.func6 (by kernel_rfl)
    (of_decide_eq_true (by kernel_rfl)) (by unfold Func.isWrapper; first | (rw [if_pos (by decide +kernel)]; kernel_rfl) | (rw [if_neg (by decide +kernel)]; exact ⟨rfl, rfl⟩))
    (fun os started H enc _ => valueParses_lifted os started H enc)
end Go.Proofs.Ytidlemedkjkmdaa
