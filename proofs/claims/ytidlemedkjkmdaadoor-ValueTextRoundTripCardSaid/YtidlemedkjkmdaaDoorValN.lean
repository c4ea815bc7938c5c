/- The walks over Parse, package value's and the reference's. -/
import Derived.Test.YtidlemedkjkmdaaDoorValI
import Derived.Test.YtidlemedkjkmdaaDoorValB
import Derived.Test.YtidlemedkjkmdaaDoorDateW6
import Derived.Test.YtidlemedkjkmdaaDoorDecW9
import Derived.Test.YtidlemedkjkmdaaDoorValA
namespace Go.VL
open Go.RowKit Go.VB Go.DT Go.DC
def isN (s : ByteArray) : Bool := s.toList == [110, 117, 108, 108]
def isTr (s : ByteArray) : Bool := s.toList == [116, 114, 117, 101]
def isFa (s : ByteArray) : Bool := s.toList == [102, 97, 108, 115, 101]
def okSc (ty sc : Int) : Bool := decide (ty ≠ 5 ∨ (0 ≤ sc ∧ sc ≤ 18))
/-- The number of a text of each type but Bytes, and the code. -/
def numT (ty sc : Int) (s : ByteArray) : Int := if ty = 2 then (if isTr s then 1 else 0) else if ty = 4 then pn s else if ty = 5 then PN s sc else IN s
def codT (ty sc : Int) (s : ByteArray) : Nat := if ty = 2 then (if isTr s then 0 else if isFa s then 0 else 2) else if ty = 4 then pc s else if ty = 5 then PC s sc else IC s
/-- What Parse returns. -/
structure PR where
  nul : Bool
  n : Int
  s : ByteArray
  e : Nat
def PR.val (r : PR) : Value := .tuple #[.agg #[.bool r.nul, .int .i64 r.n, .string r.s], .int .i64 (r.e : Int)]
/-- The code of a null text. -/
def nulE (nu : Bool) : Int := if nu then 0 else 12
def prs (ty sc : Int) (nu : Bool) (s : ByteArray) : PR :=
  if okT ty = false then ⟨false, 0, ⟨#[]⟩, 1⟩
  else if okSc ty sc = false then ⟨false, 0, ⟨#[]⟩, 1⟩
  else if isN s then (if nu then ⟨true, 0, ⟨#[]⟩, 0⟩ else ⟨false, 0, ⟨#[]⟩, 12⟩)
  else if ty = 3 then ⟨false, 0, BS s, BC s⟩
  else ⟨false, numT ty sc s, ⟨#[]⟩, codT ty sc s⟩
end Go.VL
namespace Go.Proofs.YtidlemedkjkmdaaDoor
open Go.RowKit Go.VB Go.VL Go.DT Go.DC
set_option maxRecDepth 100000 in
set_option maxHeartbeats 1000000 in
theorem hasSc_any (nm : ByteArray) (ty sc : Int) (nu : Bool) (w : World) : Calls Tryd.prog 13 #[(.agg #[.string nm, .int .i64 ty, .int .i64 sc, .bool nu])] w (RetB (.bool (okSc ty sc)) w) := by
  by_cases h5 : ty = 5
  · subst h5
    by_cases h0 : 0 ≤ sc
    · by_cases h1 : sc ≤ 18
      · rw [show okSc 5 sc = true from decide_eq_true (.inr ⟨h0, h1⟩)]
        go_enter Tryd.func13, Tryd.ntmps13
        go_wp2
        go_ret
        exact RetB.mk rfl (by go_grown)
      · rw [show okSc 5 sc = false from decide_eq_false (by rintro (h | h); exact h rfl; exact h1 h.2)]
        have hd := decide_eq_false h1
        clear h1
        go_enter Tryd.func13, Tryd.ntmps13
        go_wp2
        go_ret
        exact RetB.mk rfl (by go_grown)
    · rw [show okSc 5 sc = false from decide_eq_false (by rintro (h | h); exact h rfl; exact h0 h.1)]
      have hd := decide_eq_false h0
      clear h0
      go_enter Tryd.func13, Tryd.ntmps13
      go_wp2
      go_ret
      exact RetB.mk rfl (by go_grown)
  · rw [show okSc ty sc = true from decide_eq_true (.inl h5)]
    have e5 := ine_t h5
    clear h5
    go_enter Tryd.func13, Tryd.ntmps13
    go_wp2
    go_ret
    exact RetB.mk rfl (by go_grown)
set_option maxRecDepth 100000 in
set_option maxHeartbeats 1000000 in
theorem pNull_any (nm : ByteArray) (ty sc : Int) (nu : Bool) (w : World) : Calls Tryd.prog 31 #[(.agg #[.string nm, .int .i64 ty, .int .i64 sc, .bool nu])] w (RetB (.tuple #[.agg #[.bool nu, .int .i64 0, .string ⟨#[]⟩], .int .i64 (nulE nu)]) w) := by
  cases nu
  · go_enter Tryd.func31, Tryd.ntmps31
    go_wp2
    refine bodyPost_ret (v := (PR.mk false 0 ⟨#[]⟩ 12).val) (by simp [PR.val, results, Tryd.results31, go_sem]) rfl ?_
    exact RetB.mk rfl (by go_grown)
  · go_enter Tryd.func31, Tryd.ntmps31
    go_wp2
    refine bodyPost_ret (v := (PR.mk true 0 ⟨#[]⟩ 0).val) (by simp [PR.val, results, Tryd.results31, go_sem]) rfl ?_
    exact RetB.mk rfl (by go_grown)
theorem tr_fa {s : ByteArray} (h : isTr s = true) : isFa s = false := by
  unfold isTr at h; unfold isFa
  rw [beq_iff_eq] at h
  rw [h]; rfl
set_option maxRecDepth 100000 in
set_option maxHeartbeats 1000000 in
theorem pBool_any (s : ByteArray) (w : World) : Calls Tryd.prog 51 #[.string s] w (Ret (.tuple #[.int .i64 (numT 2 0 s), .int .i64 (codT 2 0 s : Nat)]) w) := by
  by_cases h1 : isTr s = true
  · have h2 : (s.toList == [102, 97, 108, 115, 101]) = false := tr_fa h1
    have hn : numT 2 0 s = 1 := by unfold numT; simp [h1]
    have hc : codT 2 0 s = 0 := by unfold codT; simp [h1]
    rw [hn, hc]
    have h1' : (s.toList == [116, 114, 117, 101]) = true := h1
    clear hn hc h1
    go_enter Tryd.func51, Tryd.ntmps51
    go_wp2
    go_ret2
    exact Ret.mk rfl
  · have h1' : (s.toList == [116, 114, 117, 101]) = false := by simpa [isTr] using h1
    have hn : numT 2 0 s = 0 := by unfold numT; simp [h1]
    rw [hn]; clear hn
    by_cases h2 : isFa s = true
    · have hc : codT 2 0 s = 0 := by unfold codT; simp [h1, h2]
      rw [hc]
      have h2' : (s.toList == [102, 97, 108, 115, 101]) = true := h2
      clear hc h1 h2
      go_enter Tryd.func51, Tryd.ntmps51
      go_wp2
      go_ret2
      exact Ret.mk rfl
    · have hc : codT 2 0 s = 2 := by unfold codT; simp [h1, h2]
      rw [hc]
      have h2' : (s.toList == [102, 97, 108, 115, 101]) = false := by simpa [isFa] using h2
      clear hc h1 h2
      go_enter Tryd.func51, Tryd.ntmps51
      go_wp2
      go_ret2
      exact Ret.mk rfl
set_option maxRecDepth 100000 in
set_option maxHeartbeats 4000000 in
theorem pNum_any (nm : ByteArray) (ty sc : Int) (nu : Bool) (s : ByteArray) (w : World) (zs : s.size ≤ 140737488351232) : Calls Tryd.prog 33 #[(.agg #[.string nm, .int .i64 ty, .int .i64 sc, .bool nu]), .string s] w (RetB (.tuple #[.int .i64 (numT ty sc s), .int .i64 (codT ty sc s : Nat)]) w) := by
  by_cases h2 : ty = 2
  · subst h2
    have H := fun w => Lib.hid (pBool_any s w)
    have hn : numT 2 sc s = numT 2 0 s := rfl
    have hc : codT 2 sc s = codT 2 0 s := rfl
    rw [hn, hc]
    generalize numT 2 0 s = n at *
    generalize codT 2 0 s = c at *
    clear hn hc
    go_enter Tryd.func33, Tryd.ntmps33
    go_wp2_with (go_at_call 51; refine (H _).out.mono ?_; rintro e w' ⟨rfl, rfl⟩)
    go_ret2
    exact RetB.mk rfl (by go_grown)
  by_cases h4 : ty = 4
  · subst h4
    have H := fun w => Lib.hid (parse_any s w zs)
    have hn : numT 4 sc s = pn s := rfl
    have hc : codT 4 sc s = pc s := rfl
    rw [hn, hc]
    generalize pn s = n at *
    generalize pc s = c at *
    clear hn hc
    go_enter Tryd.func33, Tryd.ntmps33
    go_wp2_with (go_at_call 52; refine (H _).out.mono ?_; rintro e w' ⟨rfl, hb⟩)
    go_ret2
    exact RetB.mk rfl (bel_trans (by go_grown) hb)
  by_cases h5 : ty = 5
  · subst h5
    have H := fun w => Lib.hid (dparse_any s sc w zs)
    have hn : numT 5 sc s = PN s sc := rfl
    have hc : codT 5 sc s = PC s sc := rfl
    rw [hn, hc]
    generalize PN s sc = n at *
    generalize PC s sc = c at *
    clear hn hc
    go_enter Tryd.func33, Tryd.ntmps33
    go_wp2_with (go_at_call 53; refine (H _).out.mono ?_; rintro e w' ⟨rfl, hb⟩)
    go_ret2
    exact RetB.mk rfl (bel_trans (by go_grown) hb)
  · have H := fun w => Lib.hid (pInt_any s w zs)
    have hn : numT ty sc s = IN s := by unfold numT; rw [if_neg h2, if_neg h4, if_neg h5]
    have hc : codT ty sc s = IC s := by unfold codT; rw [if_neg h2, if_neg h4, if_neg h5]
    rw [hn, hc]
    generalize IN s = n at *
    generalize IC s = c at *
    have e2 := ieq_f h2
    have e4 := ieq_f h4
    have e5 := ieq_f h5
    clear hn hc h2 h4 h5
    go_enter Tryd.func33, Tryd.ntmps33
    go_wp2_with (go_at_call 54; refine (H _).out.mono ?_; rintro e w' ⟨rfl, rfl⟩)
    go_ret2
    exact RetB.mk rfl (by go_grown)
set_option maxRecDepth 100000 in
set_option maxHeartbeats 4000000 in
theorem vParse_any (nm : ByteArray) (ty sc : Int) (nu : Bool) (s : ByteArray) (W : World) (zs : s.size ≤ 140737488351232) : Calls Tryd.prog 12 #[(.agg #[.string nm, .int .i64 ty, .int .i64 sc, .bool nu]), .string s] W (RetB (prs ty sc nu s).val W) := by
  have HT := fun w => Lib.hid (isType_any ty w)
  have HS := fun w => Lib.hid (hasSc_any nm ty sc nu w)
  by_cases hT : okT ty = false
  · have HR := Lib.hid (show (prs ty sc nu s).val = (PR.mk false 0 ⟨#[]⟩ 1).val from by unfold prs; rw [if_pos hT])
    generalize (prs ty sc nu s).val = R at *
    rw [hT] at HT
    clear hT HS
    go_enter Tryd.func12, Tryd.ntmps12
    go_wp2_with (go_at_call 30; refine (HT _).out.mono ?_; rintro e w' ⟨rfl, rfl⟩)
    refine bodyPost_ret (v := (PR.mk false 0 ⟨#[]⟩ 1).val) (by simp [PR.val, results, Tryd.results12, go_sem]) rfl ?_
    exact RetB.mk (by rw [HR.out]) (by go_grown)
  have HR1 : okSc ty sc = false → Hid ((prs ty sc nu s).val = (PR.mk false 0 ⟨#[]⟩ 1).val) := fun h => Lib.hid (by unfold prs; rw [if_neg hT, if_pos h])
  have HR2 : okSc ty sc = true → isN s = true → Hid ((prs ty sc nu s).val = .tuple #[.agg #[.bool nu, .int .i64 0, .string ⟨#[]⟩], .int .i64 (nulE nu)]) := fun h h2 => Lib.hid (by
    unfold prs; rw [if_neg hT, if_neg (by rw [h]; simp), if_pos h2]; cases nu <;> rfl)
  have HR3 : okSc ty sc = true → isN s = false → ty = 3 → Hid ((prs ty sc nu s).val = (PR.mk false 0 (BS s) (BC s)).val) := fun h h2 h3 => Lib.hid (by
    unfold prs; rw [if_neg hT, if_neg (by rw [h]; simp), if_neg (by rw [h2]; simp), if_pos h3])
  have HR4 : okSc ty sc = true → isN s = false → ty ≠ 3 → Hid ((prs ty sc nu s).val = (PR.mk false (numT ty sc s) ⟨#[]⟩ (codT ty sc s)).val) := fun h h2 h3 => Lib.hid (by
    unfold prs; rw [if_neg hT, if_neg (by rw [h]; simp), if_neg (by rw [h2]; simp), if_neg h3])
  generalize (prs ty sc nu s).val = R at *
  have hT' : okT ty = true := by simpa using hT
  rw [hT'] at HT
  clear hT hT'
  have hV4 := Var4.new W (.string nm) (.int .i64 ty) (.int .i64 sc) (.bool nu) 26
  have hV3 := Var3.new (W.alloc (.cells #[.string nm, .int .i64 ty, .int .i64 sc, .bool nu] 26)) (.bool false) (.int .i64 0) (.string ⟨#[]⟩) 28
  replace hV4 := hV4.step ((Below.refl _ _).alloc (Nat.le_refl _) (.cells #[.bool false, .int .i64 0, .string ⟨#[]⟩] 28))
  have hB : Below W.heap.size W ((W.alloc (.cells #[.string nm, .int .i64 ty, .int .i64 sc, .bool nu] 26)).alloc (.cells #[.bool false, .int .i64 0, .string ⟨#[]⟩] 28)) := by go_grown
  rw [show (W.alloc (.cells #[.string nm, .int .i64 ty, .int .i64 sc, .bool nu] 26)).heap.size = W.heap.size + 1 from by simp] at hV3
  have fin : ∀ (w1 : World) (nul : Bool) (n : Int) (t : ByteArray), Var3 w1 (W.heap.size + 1) (.bool false) (.int .i64 0) (.string ⟨#[]⟩) → Below W.heap.size W w1 → Hid (Var3 (((w1.setCell ⟨W.heap.size + 1, 0, none⟩ (.bool nul)).setCell ⟨W.heap.size + 1, 1, none⟩ (.int .i64 n)).setCell ⟨W.heap.size + 1, 2, none⟩ (.string t)) (W.heap.size + 1) (.bool nul) (.int .i64 n) (.string t) ∧
      Below W.heap.size W (((w1.setCell ⟨W.heap.size + 1, 0, none⟩ (.bool nul)).setCell ⟨W.heap.size + 1, 1, none⟩ (.int .i64 n)).setCell ⟨W.heap.size + 1, 2, none⟩ (.string t))) := fun w1 nul n t hv hb => Lib.hid ⟨hv.set _ _ _, set3_below hb (Nat.le_succ _) _ _ _⟩
  go_enter Tryd.func12, Tryd.ntmps12
  go_wp2_with (go_at_call 30; refine (HT _).out.mono ?_; rintro e w' ⟨rfl, rfl⟩)
  refine (HS _).out.mono ?_
  rintro e w1 ⟨rfl, hb1⟩
  replace hV4 := hV4.step hb1
  replace hV3 := hV3.step hb1
  replace hB := bel_trans hB hb1
  clear hb1 HT HS
  by_cases hS : okSc ty sc = false
  · have HR := HR1 hS
    rw [hS]
    clear HR1 HR2 HR3 HR4
    have hf := (fin w1 false 0 ⟨#[]⟩ hV3 hB).out
    clear fin
    obtain ⟨k0, k1, k2, k3⟩ := hV4
    obtain ⟨m0, m1, m2, f0, f1, f2⟩ := hV3
    go_wp2
    generalize ((w1.setCell ⟨W.heap.size + 1, 0, none⟩ (.bool false)).setCell ⟨W.heap.size + 1, 1, none⟩ (.int .i64 0)).setCell ⟨W.heap.size + 1, 2, none⟩ (.string ⟨#[]⟩) = w9 at *
    obtain ⟨⟨n0, n1, n2, _, _, _⟩, hB9⟩ := hf
    refine bodyPost_ret (v := (PR.mk false 0 ⟨#[]⟩ 1).val) (by simp [PR.val, results, Tryd.results12, go_sem, n0, n1, n2]) rfl ?_
    exact RetB.mk (by rw [HR.out]) hB9
  have hS' : okSc ty sc = true := by simpa using hS
  replace HR2 := HR2 hS'
  replace HR3 := HR3 hS'
  replace HR4 := HR4 hS'
  rw [hS']
  clear hS HR1
  by_cases hN : isN s = true
  · have HR := HR2 hN
    have hN' : (s.toList == [110, 117, 108, 108]) = true := hN
    have HP := fun w => Lib.hid (pNull_any nm ty sc nu w)
    generalize nulE nu = ec at *
    clear hN HR2 HR3 HR4
    obtain ⟨k0, k1, k2, k3⟩ := hV4
    go_wp2_with fail
    refine (HP _).out.mono ?_
    rintro e w2 ⟨rfl, hb2⟩
    replace hV3 := hV3.step hb2
    replace hB := bel_trans hB hb2
    clear HP hb2 k0 k1 k2 k3
    have hf := (fin w2 nu 0 ⟨#[]⟩ hV3 hB).out
    clear fin
    obtain ⟨m0, m1, m2, f0, f1, f2⟩ := hV3
    go_wp2
    generalize ((w2.setCell ⟨W.heap.size + 1, 0, none⟩ (.bool nu)).setCell ⟨W.heap.size + 1, 1, none⟩ (.int .i64 0)).setCell ⟨W.heap.size + 1, 2, none⟩ (.string ⟨#[]⟩) = w9 at *
    obtain ⟨⟨n0, n1, n2, _, _, _⟩, hB9⟩ := hf
    refine bodyPost_ret (v := .tuple #[.agg #[.bool nu, .int .i64 0, .string ⟨#[]⟩], .int .i64 ec]) (by simp [results, Tryd.results12, go_sem, n0, n1, n2]) rfl ?_
    exact RetB.mk (by rw [HR.out]) hB9
  have hN0 : isN s = false := by simpa using hN
  have hN' : (s.toList == [110, 117, 108, 108]) = false := by simpa [isN] using hN
  replace HR3 := HR3 hN0
  replace HR4 := HR4 hN0
  clear hN HR2 hN0
  obtain ⟨k0, k1, k2, k3⟩ := hV4
  by_cases h3 : ty = 3
  · have HR := HR3 h3
    subst h3
    clear HR3 HR4
    have HP := fun w => Lib.hid (pBytes_any s w zs)
    generalize BS s = t at *
    generalize BC s = ec at *
    go_wp2_with fail
    refine (HP _).out.mono ?_
    rintro e w2 ⟨rfl, hb2⟩
    replace hV3 := hV3.step hb2
    replace hB := bel_trans hB hb2
    clear HP hb2 k0 k1 k2 k3
    have hf := (fin w2 false 0 t hV3 hB).out
    clear fin
    obtain ⟨m0, m1, m2, f0, f1, f2⟩ := hV3
    go_wp2
    generalize ((w2.setCell ⟨W.heap.size + 1, 0, none⟩ (.bool false)).setCell ⟨W.heap.size + 1, 1, none⟩ (.int .i64 0)).setCell ⟨W.heap.size + 1, 2, none⟩ (.string t) = w9 at *
    obtain ⟨⟨n0, n1, n2, _, _, _⟩, hB9⟩ := hf
    refine bodyPost_ret (v := (PR.mk false 0 t ec).val) (by simp [PR.val, results, Tryd.results12, go_sem, n0, n1, n2]) rfl ?_
    exact RetB.mk (by rw [HR.out]) hB9
  · have HR := HR4 h3
    have e3 := ieq_f h3
    clear h3 HR3 HR4
    have HP := fun w => Lib.hid (pNum_any nm ty sc nu s w zs)
    generalize numT ty sc s = n at *
    generalize codT ty sc s = ec at *
    go_wp2_with fail
    refine (HP _).out.mono ?_
    rintro e w2 ⟨rfl, hb2⟩
    replace hV3 := hV3.step hb2
    replace hB := bel_trans hB hb2
    clear HP hb2 k0 k1 k2 k3
    have hf := (fin w2 false n ⟨#[]⟩ hV3 hB).out
    clear fin
    obtain ⟨m0, m1, m2, f0, f1, f2⟩ := hV3
    go_wp2
    generalize ((w2.setCell ⟨W.heap.size + 1, 0, none⟩ (.bool false)).setCell ⟨W.heap.size + 1, 1, none⟩ (.int .i64 n)).setCell ⟨W.heap.size + 1, 2, none⟩ (.string ⟨#[]⟩) = w9 at *
    obtain ⟨⟨n0, n1, n2, _, _, _⟩, hB9⟩ := hf
    refine bodyPost_ret (v := (PR.mk false n ⟨#[]⟩ ec).val) (by simp [PR.val, results, Tryd.results12, go_sem, n0, n1, n2]) rfl ?_
    exact RetB.mk (by rw [HR.out]) hB9
end Go.Proofs.YtidlemedkjkmdaaDoor
