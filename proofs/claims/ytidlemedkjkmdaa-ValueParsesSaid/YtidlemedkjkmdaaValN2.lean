/- The walk over the reference's Parse. -/
import Derived.Test.YtidlemedkjkmdaaValN
import Derived.Test.YtidlemedkjkmdaaValI2
import Derived.Test.YtidlemedkjkmdaaValB2
import Derived.Test.YtidlemedkjkmdaaValW3
namespace Go.VL
open Go.RowKit Go.VB Go.DT Go.DC
theorem IN_err {s : ByteArray} (h : IC s ≠ 0) : IN s = 0 := by
  by_cases h1 : okI s
  · by_cases h2 : fitI (ngb s) (vl (body s))
    · exact absurd (IC_in h1 h2) h
    · exact IN_over h2
  · exact IN_form h1
theorem pn_err {s : ByteArray} (h : pc s ≠ 0) : pn s = 0 := by
  unfold pc at h; unfold pn
  by_cases h1 : form s
  · rw [if_pos h1] at h ⊢
    unfold dc at h; unfold dn
    by_cases h2 : okD (nm s 0 4 : Nat) (nm s 5 2 : Nat) (nm s 8 2 : Nat)
    · rw [if_pos h2] at h; exact absurd rfl h
    · rw [if_neg h2]
  · rw [if_neg h1]
theorem PN_err {s : ByteArray} {k : Int} (h : PC s k ≠ 0) : PN s k = 0 := by
  unfold PC at h; unfold PN
  by_cases h1 : okS k
  · by_cases h2 : okF s
    · by_cases h3 : fitsD s k.toNat
      · rw [if_pos h1, if_pos h2, if_pos h3] at h; exact absurd rfl h
      · exact if_neg fun hk => h3 hk.2.2
    · exact if_neg fun hk => h2 hk.2.1
  · exact if_neg fun hk => h1 hk.1
end Go.VL
namespace Go.Proofs.Ytidlemedkjkmdaa
open Go.RowKit Go.VB Go.VL Go.DT Go.DC
set_option maxRecDepth 100000 in
set_option maxHeartbeats 8000000 in
theorem rParse_any (nm : ByteArray) (ty sc : Int) (nu : Bool) (s : ByteArray) (W : World) (zs : s.size ≤ 140737488351232) : Calls Try.prog 18 #[(.agg #[.string nm, .int .i64 ty, .int .i64 sc, .bool nu]), .string s] W (RetB (prs ty sc nu s).val W) := by
  have HT := fun w => Lib.hid (rtyped_any ty w)
  by_cases hT : okT ty = false
  · have HR := Lib.hid (show (prs ty sc nu s).val = (PR.mk false 0 ⟨#[]⟩ 1).val from by unfold prs; rw [if_pos hT])
    generalize (prs ty sc nu s).val = R at *
    rw [hT] at HT
    clear hT
    go_enter Try.func18, Try.ntmps18
    go_wp2_with (go_at_call 25; refine (HT _).out.mono ?_; rintro e w' ⟨rfl, rfl⟩)
    refine bodyPost_ret (v := (PR.mk false 0 ⟨#[]⟩ 1).val) (by simp [PR.val, results, Try.results18, go_sem]) rfl ?_
    exact RetB.mk (by rw [HR.out]) (by go_grown)
  have HR1 : okSc ty sc = false → Hid ((prs ty sc nu s).val = (PR.mk false 0 ⟨#[]⟩ 1).val) := fun h => Lib.hid (by unfold prs; rw [if_neg hT, if_pos h])
  have HR2 : okSc ty sc = true → isN s = true → Hid ((prs ty sc nu s).val = .tuple #[.agg #[.bool nu, .int .i64 0, .string ⟨#[]⟩], .int .i64 (nulE nu)]) := fun h h2 => Lib.hid (by
    unfold prs; rw [if_neg hT, if_neg (by rw [h]; simp), if_pos h2]; cases nu <;> rfl)
  have HR3 : okSc ty sc = true → isN s = false → ty = 3 → Hid ((prs ty sc nu s).val = (PR.mk false 0 (BS s) (BC s)).val) := fun h h2 h3 => Lib.hid (by
    unfold prs; rw [if_neg hT, if_neg (by rw [h]; simp), if_neg (by rw [h2]; simp), if_pos h3])
  have HR4 : okSc ty sc = true → isN s = false → ty ≠ 3 → Hid ((prs ty sc nu s).val = (PR.mk false (numT ty sc s) ⟨#[]⟩ (codT ty sc s)).val) := fun h h2 h3 => Lib.hid (by
    unfold prs; rw [if_neg hT, if_neg (by rw [h]; simp), if_neg (by rw [h2]; simp), if_neg h3])
  generalize (prs ty sc nu s).val = R at *
  have hT' : okT ty = true := by simpa using hT
  rw [hT'] at HT
  by_cases hS : okSc ty sc = false
  · have HR := HR1 hS
    clear HR1 HR2 HR3 HR4 hT hT'
    have h5 : ty = 5 := by have := of_decide_eq_false hS; omega
    have hsc : ¬ (0 ≤ sc ∧ sc ≤ 18) := by have := of_decide_eq_false hS; omega
    subst h5
    clear hS
    by_cases h0 : sc < 0
    · clear hsc
      go_enter Try.func18, Try.ntmps18
      go_wp2_with (go_at_call 25; refine (HT _).out.mono ?_; rintro e w' ⟨rfl, rfl⟩)
      refine bodyPost_ret (v := (PR.mk false 0 ⟨#[]⟩ 1).val) (by simp [PR.val, results, Try.results18, go_sem]) rfl ?_
      exact RetB.mk (by rw [HR.out]) (by go_grown)
    · have h1 : 18 < sc := by omega
      clear hsc
      go_enter Try.func18, Try.ntmps18
      go_wp2_with (go_at_call 25; refine (HT _).out.mono ?_; rintro e w' ⟨rfl, rfl⟩)
      refine bodyPost_ret (v := (PR.mk false 0 ⟨#[]⟩ 1).val) (by simp [PR.val, results, Try.results18, go_sem]) rfl ?_
      exact RetB.mk (by rw [HR.out]) (by go_grown)
  have hS' : okSc ty sc = true := by simpa using hS
  replace HR2 := HR2 hS'
  replace HR3 := HR3 hS'
  replace HR4 := HR4 hS'
  have hsc : (ty == 5) = false ∨ (ty = 5 ∧ ¬ sc < 0 ∧ ¬ 18 < sc) := by
    have := of_decide_eq_true hS'
    by_cases h5 : ty = 5
    · exact .inr ⟨h5, by omega, by omega⟩
    · exact .inl (ieq_f h5)
  have h5 := okT_five hT'
  clear HR1 hS hS' hT hT'
  by_cases hN : isN s = true
  · have HR := HR2 hN
    have hN' : (s.toList == [110, 117, 108, 108]) = true := hN
    clear hN HR2 HR3 HR4
    rcases hsc with h | ⟨rfl, hs1, hs2⟩
    all_goals
      cases nu
      · go_enter Try.func18, Try.ntmps18
        go_wp2_with (go_at_call 25; refine (HT _).out.mono ?_; rintro e w' ⟨rfl, rfl⟩)
        refine bodyPost_ret (v := .tuple #[.agg #[.bool false, .int .i64 0, .string ⟨#[]⟩], .int .i64 12]) (by simp [results, Try.results18, go_sem]) rfl ?_
        exact RetB.mk (by rw [HR.out]; rfl) (by go_grown)
      · go_enter Try.func18, Try.ntmps18
        go_wp2_with (go_at_call 25; refine (HT _).out.mono ?_; rintro e w' ⟨rfl, rfl⟩)
        refine bodyPost_ret (v := .tuple #[.agg #[.bool true, .int .i64 0, .string ⟨#[]⟩], .int .i64 0]) (by simp [results, Try.results18, go_sem]) rfl ?_
        exact RetB.mk (by rw [HR.out]; rfl) (by go_grown)
  have hN0 : isN s = false := by simpa using hN
  have hN' : (s.toList == [110, 117, 108, 108]) = false := by simpa [isN] using hN
  replace HR3 := HR3 hN0
  replace HR4 := HR4 hN0
  clear hN HR2 hN0
  have hV4 := Var4.new W (.string nm) (.int .i64 ty) (.int .i64 sc) (.bool nu) 23
  have hV3 := Var3.new (W.alloc (.cells #[.string nm, .int .i64 ty, .int .i64 sc, .bool nu] 23)) (.bool false) (.int .i64 0) (.string ⟨#[]⟩) 25
  replace hV4 := hV4.step ((Below.refl _ _).alloc (Nat.le_refl _) (.cells #[.bool false, .int .i64 0, .string ⟨#[]⟩] 25))
  have hB : Below W.heap.size W ((W.alloc (.cells #[.string nm, .int .i64 ty, .int .i64 sc, .bool nu] 23)).alloc (.cells #[.bool false, .int .i64 0, .string ⟨#[]⟩] 25)) := by go_grown
  rw [show (W.alloc (.cells #[.string nm, .int .i64 ty, .int .i64 sc, .bool nu] 23)).heap.size = W.heap.size + 1 from by simp] at hV3
  have fin : ∀ (w1 : World) (nul : Bool) (n : Int) (t : ByteArray), Var3 w1 (W.heap.size + 1) (.bool false) (.int .i64 0) (.string ⟨#[]⟩) → Below W.heap.size W w1 → Hid (Var3 (((w1.setCell ⟨W.heap.size + 1, 0, none⟩ (.bool nul)).setCell ⟨W.heap.size + 1, 1, none⟩ (.int .i64 n)).setCell ⟨W.heap.size + 1, 2, none⟩ (.string t)) (W.heap.size + 1) (.bool nul) (.int .i64 n) (.string t) ∧
      Below W.heap.size W (((w1.setCell ⟨W.heap.size + 1, 0, none⟩ (.bool nul)).setCell ⟨W.heap.size + 1, 1, none⟩ (.int .i64 n)).setCell ⟨W.heap.size + 1, 2, none⟩ (.string t))) := fun w1 nul n t hv hb => Lib.hid ⟨hv.set _ _ _, set3_below hb (Nat.le_succ _) _ _ _⟩
  rcases h5 with rfl | rfl | rfl | rfl | rfl
  · have HR := HR4 (by decide)
    have hn : numT 1 sc s = IN s := rfl
    have hc : codT 1 sc s = IC s := rfl
    rw [hn, hc] at HR
    have H : ∀ w, Hid (Calls Try.prog 35 #[.string s] w (RetB (.tuple #[.int .i64 (IN s), .int .i64 (IC s : Nat)]) w)) := fun w => Lib.hid ((rnum_any s w zs).mono fun _ _ h => by first | exact h | exact h.toB)
    have hE := fun h => IN_err (s := s) (h : IC s ≠ 0)
    clear HR3 HR4 hn hc
    generalize IN s = n at *
    generalize IC s = ec at *
    rcases hsc with h5 | ⟨h5, hs1, hs2⟩
    all_goals first
      | (exact absurd h5 (by decide))
      | (go_enter Try.func18, Try.ntmps18
         go_wp2_with (go_at_call 25; refine (HT _).out.mono ?_; rintro e w' ⟨rfl, rfl⟩)
         refine (H _).out.mono ?_
         rintro e w2 ⟨rfl, hb2⟩
         replace hV3 := hV3.step hb2
         replace hB := bel_trans hB hb2
         clear H hb2 hV4 HT
         by_cases he : ec = 0
         · subst he
           have hf := (fin w2 false n ⟨#[]⟩ hV3 hB).out
           clear fin hE
           obtain ⟨m0, m1, m2, f0, f1, f2⟩ := hV3
           go_wp2
           generalize ((w2.setCell ⟨W.heap.size + 1, 0, none⟩ (.bool false)).setCell ⟨W.heap.size + 1, 1, none⟩ (.int .i64 n)).setCell ⟨W.heap.size + 1, 2, none⟩ (.string ⟨#[]⟩) = w9 at *
           obtain ⟨⟨n0, n1, n2, _, _, _⟩, hB9⟩ := hf
           refine bodyPost_ret (v := (PR.mk false n ⟨#[]⟩ 0).val) (by simp [PR.val, results, Try.results18, go_sem, n0, n1, n2]) rfl ?_
           exact RetB.mk (by rw [HR.out]) hB9
         · have hn0 := hE he
           subst hn0
           have hd : ((ec : Int) != 0) = true := ine_t (by omega)
           have hf := (fin w2 false 0 ⟨#[]⟩ hV3 hB).out
           clear fin hE he
           obtain ⟨m0, m1, m2, f0, f1, f2⟩ := hV3
           go_wp2
           generalize ((w2.setCell ⟨W.heap.size + 1, 0, none⟩ (.bool false)).setCell ⟨W.heap.size + 1, 1, none⟩ (.int .i64 0)).setCell ⟨W.heap.size + 1, 2, none⟩ (.string ⟨#[]⟩) = w9 at *
           obtain ⟨⟨n0, n1, n2, _, _, _⟩, hB9⟩ := hf
           refine bodyPost_ret (v := (PR.mk false 0 ⟨#[]⟩ ec).val) (by simp [PR.val, results, Try.results18, go_sem, n0, n1, n2]) rfl ?_
           exact RetB.mk (by rw [HR.out]) hB9)
  · have HR := HR4 (by decide)
    have h5 : ((2 : Int) == 5) = false := rfl
    clear HR3 HR4 hsc hV3 hV4 hB fin
    by_cases h1 : isTr s = true
    · have hn : numT 2 sc s = 1 := by unfold numT; simp [h1]
      have hc : codT 2 sc s = 0 := by unfold codT; simp [h1]
      rw [hn, hc] at HR
      have h1' : (s.toList == [116, 114, 117, 101]) = true := h1
      clear hn hc h1
      go_enter Try.func18, Try.ntmps18
      go_wp2_with (go_at_call 25; refine (HT _).out.mono ?_; rintro e w' ⟨rfl, rfl⟩)
      refine bodyPost_ret (v := (PR.mk false 1 ⟨#[]⟩ 0).val) (by simp [PR.val, results, Try.results18, go_sem]) rfl ?_
      exact RetB.mk (by rw [HR.out]) (by go_grown)
    · have h1' : (s.toList == [116, 114, 117, 101]) = false := by simpa [isTr] using h1
      have hn : numT 2 sc s = 0 := by unfold numT; simp [h1]
      rw [hn] at HR
      clear hn
      by_cases h2 : isFa s = true
      · have hc : codT 2 sc s = 0 := by unfold codT; simp [h1, h2]
        rw [hc] at HR
        have h2' : (s.toList == [102, 97, 108, 115, 101]) = true := h2
        clear hc h1 h2
        go_enter Try.func18, Try.ntmps18
        go_wp2_with (go_at_call 25; refine (HT _).out.mono ?_; rintro e w' ⟨rfl, rfl⟩)
        refine bodyPost_ret (v := (PR.mk false 0 ⟨#[]⟩ 0).val) (by simp [PR.val, results, Try.results18, go_sem]) rfl ?_
        exact RetB.mk (by rw [HR.out]) (by go_grown)
      · have hc : codT 2 sc s = 2 := by unfold codT; simp [h1, h2]
        rw [hc] at HR
        have h2' : (s.toList == [102, 97, 108, 115, 101]) = false := by simpa [isFa] using h2
        clear hc h1 h2
        go_enter Try.func18, Try.ntmps18
        go_wp2_with (go_at_call 25; refine (HT _).out.mono ?_; rintro e w' ⟨rfl, rfl⟩)
        refine bodyPost_ret (v := (PR.mk false 0 ⟨#[]⟩ 2).val) (by simp [PR.val, results, Try.results18, go_sem]) rfl ?_
        exact RetB.mk (by rw [HR.out]) (by go_grown)
  · have HR := HR3 rfl
    have h5 : ((3 : Int) == 5) = false := rfl
    have H := fun w => Lib.hid (rBytes_any s w zs)
    clear HR3 HR4 hsc
    generalize BS s = t at *
    generalize BC s = ec at *
    go_enter Try.func18, Try.ntmps18
    go_wp2_with (go_at_call 25; refine (HT _).out.mono ?_; rintro e w' ⟨rfl, rfl⟩)
    refine (H _).out.mono ?_
    rintro e w2 ⟨rfl, hb2⟩
    replace hV3 := hV3.step hb2
    replace hB := bel_trans hB hb2
    clear H hb2 hV4 HT
    have hf := (fin w2 false 0 t hV3 hB).out
    clear fin
    obtain ⟨m0, m1, m2, f0, f1, f2⟩ := hV3
    go_wp2
    generalize ((w2.setCell ⟨W.heap.size + 1, 0, none⟩ (.bool false)).setCell ⟨W.heap.size + 1, 1, none⟩ (.int .i64 0)).setCell ⟨W.heap.size + 1, 2, none⟩ (.string t) = w9 at *
    obtain ⟨⟨n0, n1, n2, _, _, _⟩, hB9⟩ := hf
    refine bodyPost_ret (v := (PR.mk false 0 t ec).val) (by simp [PR.val, results, Try.results18, go_sem, n0, n1, n2]) rfl ?_
    exact RetB.mk (by rw [HR.out]) hB9
  · have HR := HR4 (by decide)
    have hn : numT 4 sc s = pn s := rfl
    have hc : codT 4 sc s = pc s := rfl
    rw [hn, hc] at HR
    have H : ∀ w, Hid (Calls Try.prog 36 #[.string s] w (RetB (.tuple #[.int .i64 (pn s), .int .i64 (pc s : Nat)]) w)) := fun w => Lib.hid ((rparse_any s w zs).mono fun _ _ h => by first | exact h | exact h.toB)
    have hE := fun h => pn_err (s := s) (h : pc s ≠ 0)
    clear HR3 HR4 hn hc
    generalize pn s = n at *
    generalize pc s = ec at *
    rcases hsc with h5 | ⟨h5, hs1, hs2⟩
    all_goals first
      | (exact absurd h5 (by decide))
      | (go_enter Try.func18, Try.ntmps18
         go_wp2_with (go_at_call 25; refine (HT _).out.mono ?_; rintro e w' ⟨rfl, rfl⟩)
         refine (H _).out.mono ?_
         rintro e w2 ⟨rfl, hb2⟩
         replace hV3 := hV3.step hb2
         replace hB := bel_trans hB hb2
         clear H hb2 hV4 HT
         by_cases he : ec = 0
         · subst he
           have hf := (fin w2 false n ⟨#[]⟩ hV3 hB).out
           clear fin hE
           obtain ⟨m0, m1, m2, f0, f1, f2⟩ := hV3
           go_wp2
           generalize ((w2.setCell ⟨W.heap.size + 1, 0, none⟩ (.bool false)).setCell ⟨W.heap.size + 1, 1, none⟩ (.int .i64 n)).setCell ⟨W.heap.size + 1, 2, none⟩ (.string ⟨#[]⟩) = w9 at *
           obtain ⟨⟨n0, n1, n2, _, _, _⟩, hB9⟩ := hf
           refine bodyPost_ret (v := (PR.mk false n ⟨#[]⟩ 0).val) (by simp [PR.val, results, Try.results18, go_sem, n0, n1, n2]) rfl ?_
           exact RetB.mk (by rw [HR.out]) hB9
         · have hn0 := hE he
           subst hn0
           have hd : ((ec : Int) != 0) = true := ine_t (by omega)
           have hf := (fin w2 false 0 ⟨#[]⟩ hV3 hB).out
           clear fin hE he
           obtain ⟨m0, m1, m2, f0, f1, f2⟩ := hV3
           go_wp2
           generalize ((w2.setCell ⟨W.heap.size + 1, 0, none⟩ (.bool false)).setCell ⟨W.heap.size + 1, 1, none⟩ (.int .i64 0)).setCell ⟨W.heap.size + 1, 2, none⟩ (.string ⟨#[]⟩) = w9 at *
           obtain ⟨⟨n0, n1, n2, _, _, _⟩, hB9⟩ := hf
           refine bodyPost_ret (v := (PR.mk false 0 ⟨#[]⟩ ec).val) (by simp [PR.val, results, Try.results18, go_sem, n0, n1, n2]) rfl ?_
           exact RetB.mk (by rw [HR.out]) hB9)
  · have HR := HR4 (by decide)
    have hn : numT 5 sc s = PN s sc := rfl
    have hc : codT 5 sc s = PC s sc := rfl
    rw [hn, hc] at HR
    have H : ∀ w, Hid (Calls Try.prog 37 #[.string s, .int .i64 sc] w (RetB (.tuple #[.int .i64 (PN s sc), .int .i64 (PC s sc : Nat)]) w)) := fun w => Lib.hid ((rdparse_any s sc w zs).mono fun _ _ h => by first | exact h | exact h.toB)
    have hE := fun h => PN_err (k := sc) (s := s) (h : PC s sc ≠ 0)
    clear HR3 HR4 hn hc
    generalize PN s sc = n at *
    generalize PC s sc = ec at *
    rcases hsc with h5 | ⟨h5, hs1, hs2⟩
    all_goals first
      | (exact absurd h5 (by decide))
      | (go_enter Try.func18, Try.ntmps18
         go_wp2_with (go_at_call 25; refine (HT _).out.mono ?_; rintro e w' ⟨rfl, rfl⟩)
         refine (H _).out.mono ?_
         rintro e w2 ⟨rfl, hb2⟩
         replace hV3 := hV3.step hb2
         replace hB := bel_trans hB hb2
         clear H hb2 hV4 HT
         by_cases he : ec = 0
         · subst he
           have hf := (fin w2 false n ⟨#[]⟩ hV3 hB).out
           clear fin hE
           obtain ⟨m0, m1, m2, f0, f1, f2⟩ := hV3
           go_wp2
           generalize ((w2.setCell ⟨W.heap.size + 1, 0, none⟩ (.bool false)).setCell ⟨W.heap.size + 1, 1, none⟩ (.int .i64 n)).setCell ⟨W.heap.size + 1, 2, none⟩ (.string ⟨#[]⟩) = w9 at *
           obtain ⟨⟨n0, n1, n2, _, _, _⟩, hB9⟩ := hf
           refine bodyPost_ret (v := (PR.mk false n ⟨#[]⟩ 0).val) (by simp [PR.val, results, Try.results18, go_sem, n0, n1, n2]) rfl ?_
           exact RetB.mk (by rw [HR.out]) hB9
         · have hn0 := hE he
           subst hn0
           have hd : ((ec : Int) != 0) = true := ine_t (by omega)
           have hf := (fin w2 false 0 ⟨#[]⟩ hV3 hB).out
           clear fin hE he
           obtain ⟨m0, m1, m2, f0, f1, f2⟩ := hV3
           go_wp2
           generalize ((w2.setCell ⟨W.heap.size + 1, 0, none⟩ (.bool false)).setCell ⟨W.heap.size + 1, 1, none⟩ (.int .i64 0)).setCell ⟨W.heap.size + 1, 2, none⟩ (.string ⟨#[]⟩) = w9 at *
           obtain ⟨⟨n0, n1, n2, _, _, _⟩, hB9⟩ := hf
           refine bodyPost_ret (v := (PR.mk false 0 ⟨#[]⟩ ec).val) (by simp [PR.val, results, Try.results18, go_sem, n0, n1, n2]) rfl ?_
           exact RetB.mk (by rw [HR.out]) hB9)
end Go.Proofs.Ytidlemedkjkmdaa
