/- The walk over package decimal's reading of a text's parts. -/
import Derived.Test.YtidlemedkjkmdaaDoorDecW5
import Derived.BigQuiet
import Derived.BigRegion
import Derived.StillTailTactics
namespace Go.DC
open Go.VB Go.DT Go.RowKit
theorem below_drewN {n : Nat} {w w' : World} (h : Below n w w') (k : Nat) : Below n w (w'.drewN k) := by
  induction k generalizing w' with
  | zero => exact h
  | succ k ih => exact (ih h).drew
theorem drewN_heap (w : World) (n : Nat) : (w.drewN n).heap.size = w.heap.size := by
  induction n generalizing w with
  | zero => rfl
  | succ n ih => exact ih w.drew
theorem alloc_drewN (w : World) (o : Obj) (n : Nat) : (w.alloc o).drewN n = (w.drewN n).alloc o := rfl
/-- A callee that returns v and leaves the world, within a quiet region. -/
theorem quiet_ret {P : Program} {f : FuncId} {args : Array Value} {w : World} {n : Nat} {v : Value} (h : Calls P f args (w.drewN n) (Ret v (w.drewN n))) :
    Calls P f args (w.drewN n) fun e w'' => e = .returned v ∧ ∃ m, w'' = w.drewN m := h.mono fun _ _ ⟨he, hm⟩ => ⟨he, n, hm.symm⟩
theorem ngb_true {s : ByteArray} (h : ngb s = true) : 0 < s.size ∧ bN s 0 = 45 := of_decide_eq_true h
theorem ngb_of {s : ByteArray} (h1 : 0 < s.size) (h2 : bN s 0 = 45) : ngb s = true := decide_eq_true ⟨h1, h2⟩
theorem ngb_not {s : ByteArray} (h : ¬ (0 < s.size ∧ bN s 0 = 45)) : ngb s = false := decide_eq_false h
theorem ne_empty {s : ByteArray} (h : 0 < s.size) : s.toList.isEmpty = false := by
  rw [ByteArray.toList_eq]
  cases hl : s.data.toList with
  | nil => rw [← size_list, hl] at h; exact absurd h (Nat.lt_irrefl _)
  | cons _ _ => rfl
theorem is_empty {s : ByteArray} (h : ¬ 0 < s.size) : s = ⟨#[]⟩ := by
  apply ByteArray.ext
  apply Array.toList_inj.1
  exact List.eq_nil_of_length_eq_zero (by rw [size_list]; omega)
/-- What splitText returns. -/
def spV (s : ByteArray) : Value := if okF s then .tuple #[.agg #[.bool (ngb s), .string (ip (body s)), .string (fp (body s))], .bool true] else .tuple #[.agg #[.bool false, .string ⟨#[]⟩, .string ⟨#[]⟩], .bool false]
/-- What it returns where there is no such form. -/
def spFail : Value := .tuple #[.agg #[.bool false, .string ⟨#[]⟩, .string ⟨#[]⟩], .bool false]
def spOk (b : Bool) (i f : ByteArray) : Value := .tuple #[.agg #[.bool b, .string i, .string f], .bool true]
theorem okB_iff (t : ByteArray) : okB t ↔ cd t ≠ 0 ∧ ¬ (1 < cd t ∧ bN t 0 = 48) ∧ (cd t < t.size → bN t (cd t) = 46 ∧ (fp t).size ≠ 0 ∧ cd (fp t) = (fp t).size) := Iff.rfl
theorem spV_fail {s t : ByteArray} (hb : body s = t) (h : ¬ okB t) : spV s = spFail := if_neg fun hk => h (by rw [← hb]; exact hk.1)
theorem spV_neg {s t : ByteArray} (hb : body s = t) (hn : ngb s = true) (h1 : allz (ip t) = true) (h2 : allz (fp t) = true) : spV s = spFail := if_neg fun hk => hk.2 (by rw [hb]; exact ⟨hn, h1, h2⟩)
theorem spV_ok {s t : ByteArray} {b : Bool} (hb : body s = t) (hn : ngb s = b) (h : okB t) (hz : ¬ (b = true ∧ allz (ip t) = true ∧ allz (fp t) = true)) : spV s = spOk b (ip t) (fp t) := by
  unfold spV
  rw [hb, hn, if_pos]
  · rfl
  · unfold okF
    rw [hb, hn]
    exact ⟨h, hz⟩
end Go.DC
namespace Go.Proofs.YtidlemedkjkmdaaDoor
open Go.RowKit Go.VB Go.DT Go.DC
set_option maxRecDepth 100000 in
set_option maxHeartbeats 4000000 in
theorem split_any (s : ByteArray) (w : World) (zs : s.size ≤ 140737488351232) : Calls Tryd.prog 67 #[.string s] w (RetB (spV s) w) := by
  have hb := get_bN s
  by_cases hn : 0 < s.size ∧ bN s 0 = 45
  · have hng := ngb_of hn.1 hn.2
    obtain ⟨hn1, hn2⟩ := hn
    have hz1 : 1 ≤ s.size := hn1
    have he := ne_empty hn1
    have hbd : body s = s.extract 1 s.size := by unfold body; rw [hng]; rfl
    have HNG := Lib.hid hng; have HBD := Lib.hid hbd; clear hng hbd
    have ht := size_extract s 1 s.size (Nat.le_refl _)
    have hC := fun w => Lib.hid (count_any (s.extract 1 s.size) w (by omega))
    have zt : (s.extract 1 s.size).size ≤ 140737488351232 := by omega
    have HTS := Lib.hid ht; clear ht
    go_enter Tryd.func67, Tryd.ntmps67
    go_wp2_with fail
    generalize s.extract 1 s.size = t at *
    clear hb hn1 hn2 hz1 he
    refine (hC _).out.mono ?_
    rintro e w' ⟨rfl, rfl⟩
    have hp1 := cd_le t
    have hb := get_bN t
    have hI1 := size_extract t 0 (cd t) hp1
    have hI0 := fun h => bN_extract t 0 (cd t) 0 h
    rw [Nat.zero_add, Nat.sub_zero] at hI0
    have HIP := Lib.hid (show ip t = t.extract 0 (cd t) from rfl)
    have HFP := Lib.hid (show fp t = (if cd t < t.size then t.extract (cd t + 1) t.size else ⟨#[]⟩) from rfl)
    have HOK := Lib.hid (okB_iff t)
    generalize cd t = p at *
    by_cases hpt : p < t.size
    · have hF1 := size_extract t (p + 1) t.size (Nat.le_refl _)
      have hFe := HFP.out
      rw [if_pos hpt] at hFe
      have HFE := Lib.hid hFe; clear hFe
      have hix := bN_lt t p
      have hgp := hb p
      by_cases h46 : bN t p = 46
      · have hd : ((bN t p : Int) != 46) = false := by rw [h46]; rfl
        have HC46 := Lib.hid h46
        by_cases hF0 : t.size - (p + 1) = 0
        · have hsp := Lib.hid (spV_fail HBD.out fun h => ((HOK.out.1 h).2.2 hpt).2.1 (by rw [HFE.out, hF1]; exact hF0))
          have he := Lib.hid (is_empty (s := t.extract (p + 1) t.size) (by omega))
          have hF0' : t.size ≤ p + 1 := by omega
          clear hF0 h46
          go_wp2_with fail
          generalize t.extract (p + 1) t.size = G at *
          obtain rfl := he.out
          generalize hc : bN t p = c at *
          go_quiet (fail)
          rw [alloc_drewN]
          have hB := below_drewN (Below.refl w.heap.size w) nq
          have hS : w.heap.size = (w.drewN nq).heap.size := (drewN_heap w nq).symm
          generalize w.drewN nq = w1 at *
          rw [hS]
          go_wp2
          refine bodyPost_ret (v := spFail) (by simp [spFail, results, Tryd.results67, go_sem]) rfl ?_
          exact RetB.mk (by rw [hsp.out]) (hB.alloc (Nat.le_of_eq hS) _)
        have HF0 := Lib.hid (show (fp t).size ≠ 0 by rw [HFE.out, hF1]; exact hF0)
        have hF0' : 1 ≤ (t.extract (p + 1) t.size).size := by omega
        have hFne := ne_empty hF0'
        have hCF := fun w => Lib.hid (count_any (t.extract (p + 1) t.size) w (by omega))
        have hcl := cd_le (t.extract (p + 1) t.size)
        by_cases hcF : cd (t.extract (p + 1) t.size) < (t.extract (p + 1) t.size).size
        · have hsp := Lib.hid (spV_fail HBD.out fun h => by have h1 := ((HOK.out.1 h).2.2 hpt).2.2; rw [HFE.out] at h1; omega)
          generalize cd (t.extract (p + 1) t.size) = cf at *
          clear hF0 h46
          generalize hc : bN t p = c at *
          go_wp2_with fail
          go_quiet (first | (go_at_call 79; refine quiet_ret (hCF _).out))
          rw [alloc_drewN]
          have hB := below_drewN (Below.refl w.heap.size w) nq
          have hS : w.heap.size = (w.drewN nq).heap.size := (drewN_heap w nq).symm
          generalize w.drewN nq = w1 at *
          rw [hS]
          go_wp2
          refine bodyPost_ret (v := spFail) (by simp [spFail, results, Tryd.results67, go_sem]) rfl ?_
          exact RetB.mk (by rw [hsp.out]) (hB.alloc (Nat.le_of_eq hS) _)
        have HCF := Lib.hid (show cd (fp t) = (fp t).size by rw [HFE.out]; omega)
        generalize cd (t.extract (p + 1) t.size) = cf at *
        have hcF2 : (t.extract (p + 1) t.size).size ≤ cf := by omega
        clear hF0 h46
        generalize hc : bN t p = c at *
        go_wp2_with fail
        go_quiet (first | (go_at_call 79; refine quiet_ret (hCF _).out))
        rw [alloc_drewN]
        have hB := below_drewN (Below.refl w.heap.size w) nq
        have hS : w.heap.size = (w.drewN nq).heap.size := (drewN_heap w nq).symm
        generalize w.drewN nq = w1 at *
        rw [hS]
        clear hc hd hgp
        have hfp := HFP.out
        rw [if_pos hpt] at hfp
        have HFF := Lib.hid hfp; clear hfp
        have hip := HIP.out
        have HII := Lib.hid hip; clear hip
        have hZ1 := fun w => Lib.hid (isz_any (t.extract 0 p) w (by omega))
        have hZ2 := fun w => Lib.hid (isz_any (t.extract (p + 1) t.size) w (by omega))
        generalize hz1 : allz (t.extract 0 p) = z1 at *
        generalize hz2 : allz (t.extract (p + 1) t.size) = z2 at *
        have HZ1 := Lib.hid hz1; have HZ2 := Lib.hid hz2; clear hz1 hz2
        have HPT := Lib.hid hpt
        have hcF3 : ¬ cf < t.size - (p + 1) := by omega
        clear hb hF1 hF0' hFne hcl hcF hcF2 hCF hix hC zt zs hp1 hpt
        generalize t.extract (p + 1) t.size = G at *
        generalize t.extract 0 p = I at *
        have hbI := get_bN I
        by_cases hp0 : p = 0
        · have hsp := Lib.hid (spV_fail HBD.out fun h => (HOK.out.1 h).1 hp0)
          have e0 : ((p : Int) == 0) = true := by rw [hp0]; rfl
          have e1 : p ≤ 0 := Nat.le_of_eq hp0
          clear hp0
          cases z1
          · go_wp2_with (first
              | (go_at_call 80; (with_reducible refine (hZ1 _).out.mono ?_); rintro e w' ⟨rfl, rfl⟩)
              | (go_at_call 80; (with_reducible refine (hZ2 _).out.mono ?_); rintro e w' ⟨rfl, rfl⟩))
            refine bodyPost_ret (v := spFail) (by simp [spFail, results, Tryd.results67, go_sem]) rfl ?_
            exact RetB.mk (by rw [hsp.out]) (hB.alloc (Nat.le_of_eq hS) _)
          · cases z2
            · go_wp2_with (first
                | (go_at_call 80; (with_reducible refine (hZ1 _).out.mono ?_); rintro e w' ⟨rfl, rfl⟩)
                | (go_at_call 80; (with_reducible refine (hZ2 _).out.mono ?_); rintro e w' ⟨rfl, rfl⟩))
              refine bodyPost_ret (v := spFail) (by simp [spFail, results, Tryd.results67, go_sem]) rfl ?_
              exact RetB.mk (by rw [hsp.out]) (hB.alloc (Nat.le_of_eq hS) _)
            · go_wp2_with (first
                | (go_at_call 80; (with_reducible refine (hZ1 _).out.mono ?_); rintro e w' ⟨rfl, rfl⟩)
                | (go_at_call 80; (with_reducible refine (hZ2 _).out.mono ?_); rintro e w' ⟨rfl, rfl⟩))
              refine bodyPost_ret (v := spFail) (by simp [spFail, results, Tryd.results67, go_sem]) rfl ?_
              exact RetB.mk (by rw [hsp.out]) (hB.alloc (Nat.le_of_eq hS) _)
        have e0 : ((p : Int) == 0) = false := beq_eq_false_iff_ne.2 (by omega)
        have e1 : 1 ≤ p := by omega
        have hI00 : bN I 0 = bN t 0 := hI0 (by omega)
        by_cases hld : 1 < p ∧ bN t 0 = 48
        · have hsp := Lib.hid (spV_fail HBD.out fun h => (HOK.out.1 h).2.1 hld)
          have e2 : ((bN t 0 : Int) == 48) = true := by rw [hld.2]; rfl
          have e3 : 1 < p := hld.1
          clear hld hp0
          generalize bN t 0 = d at *
          cases z1
          · go_wp2_with (first
              | (go_at_call 80; (with_reducible refine (hZ1 _).out.mono ?_); rintro e w' ⟨rfl, rfl⟩)
              | (go_at_call 80; (with_reducible refine (hZ2 _).out.mono ?_); rintro e w' ⟨rfl, rfl⟩))
            refine bodyPost_ret (v := spFail) (by simp [spFail, results, Tryd.results67, go_sem]) rfl ?_
            exact RetB.mk (by rw [hsp.out]) (hB.alloc (Nat.le_of_eq hS) _)
          · cases z2
            · go_wp2_with (first
                | (go_at_call 80; (with_reducible refine (hZ1 _).out.mono ?_); rintro e w' ⟨rfl, rfl⟩)
                | (go_at_call 80; (with_reducible refine (hZ2 _).out.mono ?_); rintro e w' ⟨rfl, rfl⟩))
              refine bodyPost_ret (v := spFail) (by simp [spFail, results, Tryd.results67, go_sem]) rfl ?_
              exact RetB.mk (by rw [hsp.out]) (hB.alloc (Nat.le_of_eq hS) _)
            · go_wp2_with (first
                | (go_at_call 80; (with_reducible refine (hZ1 _).out.mono ?_); rintro e w' ⟨rfl, rfl⟩)
                | (go_at_call 80; (with_reducible refine (hZ2 _).out.mono ?_); rintro e w' ⟨rfl, rfl⟩))
              refine bodyPost_ret (v := spFail) (by simp [spFail, results, Tryd.results67, go_sem]) rfl ?_
              exact RetB.mk (by rw [hsp.out]) (hB.alloc (Nat.le_of_eq hS) _)
        have hok := Lib.hid (HOK.out.2 ⟨hp0, hld, fun _ => ⟨HC46.out, HF0.out, HCF.out⟩⟩)
        by_cases h1p : 1 < p
        · have e2 : ((bN t 0 : Int) == 48) = false := beq_eq_false_iff_ne.2 (fun h => hld ⟨h1p, by omega⟩)
          clear hld hp0
          cases z1
          · have hsp := Lib.hid (spV_ok HBD.out HNG.out hok.out (by rw [HII.out, HZ1.out]; simp))
            rw [HII.out, HFF.out] at hsp
            generalize bN t 0 = d at *
            go_wp2_with (first
              | (go_at_call 80; (with_reducible refine (hZ1 _).out.mono ?_); rintro e w' ⟨rfl, rfl⟩)
              | (go_at_call 80; (with_reducible refine (hZ2 _).out.mono ?_); rintro e w' ⟨rfl, rfl⟩))
            refine bodyPost_ret (v := spOk true I G) (by simp [spOk, results, Tryd.results67, go_sem]) rfl ?_
            exact RetB.mk (by rw [hsp.out]) (hB.alloc (Nat.le_of_eq hS) _)
          · cases z2
            · have hsp := Lib.hid (spV_ok HBD.out HNG.out hok.out (by rw [HFF.out, HZ2.out]; simp))
              rw [HII.out, HFF.out] at hsp
              generalize bN t 0 = d at *
              go_wp2_with (first
                | (go_at_call 80; (with_reducible refine (hZ1 _).out.mono ?_); rintro e w' ⟨rfl, rfl⟩)
                | (go_at_call 80; (with_reducible refine (hZ2 _).out.mono ?_); rintro e w' ⟨rfl, rfl⟩))
              refine bodyPost_ret (v := spOk true I G) (by simp [spOk, results, Tryd.results67, go_sem]) rfl ?_
              exact RetB.mk (by rw [hsp.out]) (hB.alloc (Nat.le_of_eq hS) _)
            · have hsp := Lib.hid (spV_neg HBD.out HNG.out (by rw [HII.out]; exact HZ1.out) (by rw [HFF.out]; exact HZ2.out))
              generalize bN t 0 = d at *
              go_wp2_with (first
                | (go_at_call 80; (with_reducible refine (hZ1 _).out.mono ?_); rintro e w' ⟨rfl, rfl⟩)
                | (go_at_call 80; (with_reducible refine (hZ2 _).out.mono ?_); rintro e w' ⟨rfl, rfl⟩))
              refine bodyPost_ret (v := spFail) (by simp [spFail, results, Tryd.results67, go_sem]) rfl ?_
              exact RetB.mk (by rw [hsp.out]) (hB.alloc (Nat.le_of_eq hS) _)
        · clear hld hp0
          cases z1
          · have hsp := Lib.hid (spV_ok HBD.out HNG.out hok.out (by rw [HII.out, HZ1.out]; simp))
            rw [HII.out, HFF.out] at hsp
            go_wp2_with (first
              | (go_at_call 80; (with_reducible refine (hZ1 _).out.mono ?_); rintro e w' ⟨rfl, rfl⟩)
              | (go_at_call 80; (with_reducible refine (hZ2 _).out.mono ?_); rintro e w' ⟨rfl, rfl⟩))
            refine bodyPost_ret (v := spOk true I G) (by simp [spOk, results, Tryd.results67, go_sem]) rfl ?_
            exact RetB.mk (by rw [hsp.out]) (hB.alloc (Nat.le_of_eq hS) _)
          · cases z2
            · have hsp := Lib.hid (spV_ok HBD.out HNG.out hok.out (by rw [HFF.out, HZ2.out]; simp))
              rw [HII.out, HFF.out] at hsp
              go_wp2_with (first
                | (go_at_call 80; (with_reducible refine (hZ1 _).out.mono ?_); rintro e w' ⟨rfl, rfl⟩)
                | (go_at_call 80; (with_reducible refine (hZ2 _).out.mono ?_); rintro e w' ⟨rfl, rfl⟩))
              refine bodyPost_ret (v := spOk true I G) (by simp [spOk, results, Tryd.results67, go_sem]) rfl ?_
              exact RetB.mk (by rw [hsp.out]) (hB.alloc (Nat.le_of_eq hS) _)
            · have hsp := Lib.hid (spV_neg HBD.out HNG.out (by rw [HII.out]; exact HZ1.out) (by rw [HFF.out]; exact HZ2.out))
              go_wp2_with (first
                | (go_at_call 80; (with_reducible refine (hZ1 _).out.mono ?_); rintro e w' ⟨rfl, rfl⟩)
                | (go_at_call 80; (with_reducible refine (hZ2 _).out.mono ?_); rintro e w' ⟨rfl, rfl⟩))
              refine bodyPost_ret (v := spFail) (by simp [spFail, results, Tryd.results67, go_sem]) rfl ?_
              exact RetB.mk (by rw [hsp.out]) (hB.alloc (Nat.le_of_eq hS) _)
      · have hd : ((bN t p : Int) != 46) = true := bne_iff_ne.2 (by omega)
        have hsp := Lib.hid (spV_fail HBD.out fun h => h46 (((HOK.out.1 h).2.2 hpt).1))
        clear h46
        generalize hc : bN t p = c at *
        go_wp2_with fail
        go_quiet (fail)
        rw [alloc_drewN]
        have hB := below_drewN (Below.refl w.heap.size w) nq
        have hS : w.heap.size = (w.drewN nq).heap.size := (drewN_heap w nq).symm
        generalize w.drewN nq = w1 at *
        rw [hS]
        go_wp2
        refine bodyPost_ret (v := spFail) (by simp [spFail, results, Tryd.results67, go_sem]) rfl ?_
        exact RetB.mk (by rw [hsp.out]) (hB.alloc (Nat.le_of_eq hS) _)
    · have hfp := HFP.out
      rw [if_neg hpt] at hfp
      have HFF := Lib.hid hfp; clear hfp
      have hip := HIP.out
      have HII := Lib.hid hip; clear hip
      have hZ1 := fun w => Lib.hid (isz_any (t.extract 0 p) w (by omega))
      have hZ2 := fun w => Lib.hid (isz_any ⟨#[]⟩ w (by decide))
      generalize hz1 : allz (t.extract 0 p) = z1 at *
      generalize hz2 : allz ⟨#[]⟩ = z2 at *
      have HZ1 := Lib.hid hz1; have HZ2 := Lib.hid hz2; clear hz1 hz2
      have HPT := Lib.hid hpt
      clear hb hC
      have hbI := get_bN (t.extract 0 p)
      by_cases hp0 : p = 0
      · have hsp := Lib.hid (spV_fail HBD.out fun h => (HOK.out.1 h).1 hp0)
        have e0 : ((p : Int) == 0) = true := by rw [hp0]; rfl
        have e1 : p ≤ 0 := Nat.le_of_eq hp0
        clear hp0
        cases z1
        · go_wp2_with (first
            | (go_at_call 80; (with_reducible refine (hZ1 _).out.mono ?_); rintro e w' ⟨rfl, rfl⟩)
            | (go_at_call 80; (with_reducible refine (hZ2 _).out.mono ?_); rintro e w' ⟨rfl, rfl⟩))
          refine bodyPost_ret (v := spFail) (by simp [spFail, results, Tryd.results67, go_sem]) rfl ?_
          exact RetB.mk (by rw [hsp.out]) ((Below.refl _ _).alloc (Nat.le_refl _) _)
        · cases z2
          · go_wp2_with (first
              | (go_at_call 80; (with_reducible refine (hZ1 _).out.mono ?_); rintro e w' ⟨rfl, rfl⟩)
              | (go_at_call 80; (with_reducible refine (hZ2 _).out.mono ?_); rintro e w' ⟨rfl, rfl⟩))
            all_goals (
              refine bodyPost_ret (v := spFail) (by simp [spFail, results, Tryd.results67, go_sem]) rfl ?_
              exact RetB.mk (by rw [hsp.out]) ((Below.refl _ _).alloc (Nat.le_refl _) _))
          · go_wp2_with (first
              | (go_at_call 80; (with_reducible refine (hZ1 _).out.mono ?_); rintro e w' ⟨rfl, rfl⟩)
              | (go_at_call 80; (with_reducible refine (hZ2 _).out.mono ?_); rintro e w' ⟨rfl, rfl⟩))
            refine bodyPost_ret (v := spFail) (by simp [spFail, results, Tryd.results67, go_sem]) rfl ?_
            exact RetB.mk (by rw [hsp.out]) ((Below.refl _ _).alloc (Nat.le_refl _) _)
      have e0 : ((p : Int) == 0) = false := beq_eq_false_iff_ne.2 (by omega)
      have e1 : 1 ≤ p := by omega
      have hI00 : bN (t.extract 0 p) 0 = bN t 0 := hI0 (by omega)
      by_cases hld : 1 < p ∧ bN t 0 = 48
      · have hsp := Lib.hid (spV_fail HBD.out fun h => (HOK.out.1 h).2.1 hld)
        have e2 : ((bN t 0 : Int) == 48) = true := by rw [hld.2]; rfl
        have e3 : 1 < p := hld.1
        clear hld hp0
        generalize bN t 0 = d at *
        cases z1
        · go_wp2_with (first
            | (go_at_call 80; (with_reducible refine (hZ1 _).out.mono ?_); rintro e w' ⟨rfl, rfl⟩)
            | (go_at_call 80; (with_reducible refine (hZ2 _).out.mono ?_); rintro e w' ⟨rfl, rfl⟩))
          refine bodyPost_ret (v := spFail) (by simp [spFail, results, Tryd.results67, go_sem]) rfl ?_
          exact RetB.mk (by rw [hsp.out]) ((Below.refl _ _).alloc (Nat.le_refl _) _)
        · cases z2
          · go_wp2_with (first
              | (go_at_call 80; (with_reducible refine (hZ1 _).out.mono ?_); rintro e w' ⟨rfl, rfl⟩)
              | (go_at_call 80; (with_reducible refine (hZ2 _).out.mono ?_); rintro e w' ⟨rfl, rfl⟩))
            all_goals (
              refine bodyPost_ret (v := spFail) (by simp [spFail, results, Tryd.results67, go_sem]) rfl ?_
              exact RetB.mk (by rw [hsp.out]) ((Below.refl _ _).alloc (Nat.le_refl _) _))
          · go_wp2_with (first
              | (go_at_call 80; (with_reducible refine (hZ1 _).out.mono ?_); rintro e w' ⟨rfl, rfl⟩)
              | (go_at_call 80; (with_reducible refine (hZ2 _).out.mono ?_); rintro e w' ⟨rfl, rfl⟩))
            refine bodyPost_ret (v := spFail) (by simp [spFail, results, Tryd.results67, go_sem]) rfl ?_
            exact RetB.mk (by rw [hsp.out]) ((Below.refl _ _).alloc (Nat.le_refl _) _)
      have hok := Lib.hid (HOK.out.2 ⟨hp0, hld, fun h => absurd h HPT.out⟩)
      by_cases h1p : 1 < p
      · have e2 : ((bN t 0 : Int) == 48) = false := beq_eq_false_iff_ne.2 (fun h => hld ⟨h1p, by omega⟩)
        clear hld hp0
        cases z1
        · have hsp := Lib.hid (spV_ok HBD.out HNG.out hok.out (by rw [HII.out, HZ1.out]; simp))
          rw [HII.out, HFF.out] at hsp
          generalize bN t 0 = d at *
          go_wp2_with (first
            | (go_at_call 80; (with_reducible refine (hZ1 _).out.mono ?_); rintro e w' ⟨rfl, rfl⟩)
            | (go_at_call 80; (with_reducible refine (hZ2 _).out.mono ?_); rintro e w' ⟨rfl, rfl⟩))
          refine bodyPost_ret (v := spOk true (t.extract 0 p) ⟨#[]⟩) (by simp [spOk, results, Tryd.results67, go_sem]) rfl ?_
          exact RetB.mk (by rw [hsp.out]) ((Below.refl _ _).alloc (Nat.le_refl _) _)
        · cases z2
          · have hsp := Lib.hid (spV_ok HBD.out HNG.out hok.out (by rw [HFF.out, HZ2.out]; simp))
            rw [HII.out, HFF.out] at hsp
            generalize bN t 0 = d at *
            go_wp2_with (first
              | (go_at_call 80; (with_reducible refine (hZ1 _).out.mono ?_); rintro e w' ⟨rfl, rfl⟩)
              | (go_at_call 80; (with_reducible refine (hZ2 _).out.mono ?_); rintro e w' ⟨rfl, rfl⟩))
            all_goals (
              refine bodyPost_ret (v := spOk true (t.extract 0 p) ⟨#[]⟩) (by simp [spOk, results, Tryd.results67, go_sem]) rfl ?_
              exact RetB.mk (by rw [hsp.out]) ((Below.refl _ _).alloc (Nat.le_refl _) _))
          · have hsp := Lib.hid (spV_neg HBD.out HNG.out (by rw [HII.out]; exact HZ1.out) (by rw [HFF.out]; exact HZ2.out))
            generalize bN t 0 = d at *
            go_wp2_with (first
              | (go_at_call 80; (with_reducible refine (hZ1 _).out.mono ?_); rintro e w' ⟨rfl, rfl⟩)
              | (go_at_call 80; (with_reducible refine (hZ2 _).out.mono ?_); rintro e w' ⟨rfl, rfl⟩))
            refine bodyPost_ret (v := spFail) (by simp [spFail, results, Tryd.results67, go_sem]) rfl ?_
            exact RetB.mk (by rw [hsp.out]) ((Below.refl _ _).alloc (Nat.le_refl _) _)
      · clear hld hp0
        cases z1
        · have hsp := Lib.hid (spV_ok HBD.out HNG.out hok.out (by rw [HII.out, HZ1.out]; simp))
          rw [HII.out, HFF.out] at hsp
          go_wp2_with (first
            | (go_at_call 80; (with_reducible refine (hZ1 _).out.mono ?_); rintro e w' ⟨rfl, rfl⟩)
            | (go_at_call 80; (with_reducible refine (hZ2 _).out.mono ?_); rintro e w' ⟨rfl, rfl⟩))
          refine bodyPost_ret (v := spOk true (t.extract 0 p) ⟨#[]⟩) (by simp [spOk, results, Tryd.results67, go_sem]) rfl ?_
          exact RetB.mk (by rw [hsp.out]) ((Below.refl _ _).alloc (Nat.le_refl _) _)
        · cases z2
          · have hsp := Lib.hid (spV_ok HBD.out HNG.out hok.out (by rw [HFF.out, HZ2.out]; simp))
            rw [HII.out, HFF.out] at hsp
            go_wp2_with (first
              | (go_at_call 80; (with_reducible refine (hZ1 _).out.mono ?_); rintro e w' ⟨rfl, rfl⟩)
              | (go_at_call 80; (with_reducible refine (hZ2 _).out.mono ?_); rintro e w' ⟨rfl, rfl⟩))
            all_goals (
              refine bodyPost_ret (v := spOk true (t.extract 0 p) ⟨#[]⟩) (by simp [spOk, results, Tryd.results67, go_sem]) rfl ?_
              exact RetB.mk (by rw [hsp.out]) ((Below.refl _ _).alloc (Nat.le_refl _) _))
          · have hsp := Lib.hid (spV_neg HBD.out HNG.out (by rw [HII.out]; exact HZ1.out) (by rw [HFF.out]; exact HZ2.out))
            go_wp2_with (first
              | (go_at_call 80; (with_reducible refine (hZ1 _).out.mono ?_); rintro e w' ⟨rfl, rfl⟩)
              | (go_at_call 80; (with_reducible refine (hZ2 _).out.mono ?_); rintro e w' ⟨rfl, rfl⟩))
            refine bodyPost_ret (v := spFail) (by simp [spFail, results, Tryd.results67, go_sem]) rfl ?_
            exact RetB.mk (by rw [hsp.out]) ((Below.refl _ _).alloc (Nat.le_refl _) _)
  · have hng := ngb_not hn
    have hbd : body s = s := by unfold body; rw [hng]; rfl
    have HNG := Lib.hid hng; have HBD := Lib.hid hbd; clear hng hbd
    have hC := fun w => Lib.hid (count_any s w zs)
    have HSS := Lib.hid hn; clear hn
    by_cases h0 : 0 < s.size
    · have hd0 : ((bN s 0 : Int) == 45) = false := beq_eq_false_iff_ne.2 (fun h => HSS.out ⟨h0, by omega⟩)
      have he := ne_empty h0
      go_enter Tryd.func67, Tryd.ntmps67
      go_wp2_with fail
      clear hd0 he h0 HSS
      refine (hC _).out.mono ?_
      rintro e w' ⟨rfl, rfl⟩
      clear hb
      have zt := zs
      generalize hst : s = t at *
      have hp1 := cd_le t
      have hb := get_bN t
      have hI1 := size_extract t 0 (cd t) hp1
      have hI0 := fun h => bN_extract t 0 (cd t) 0 h
      rw [Nat.zero_add, Nat.sub_zero] at hI0
      have HIP := Lib.hid (show ip t = t.extract 0 (cd t) from rfl)
      have HFP := Lib.hid (show fp t = (if cd t < t.size then t.extract (cd t + 1) t.size else ⟨#[]⟩) from rfl)
      have HOK := Lib.hid (okB_iff t)
      generalize cd t = p at *
      by_cases hpt : p < t.size
      · have hF1 := size_extract t (p + 1) t.size (Nat.le_refl _)
        have hFe := HFP.out
        rw [if_pos hpt] at hFe
        have HFE := Lib.hid hFe; clear hFe
        have hix := bN_lt t p
        have hgp := hb p
        by_cases h46 : bN t p = 46
        · have hd : ((bN t p : Int) != 46) = false := by rw [h46]; rfl
          have HC46 := Lib.hid h46
          by_cases hF0 : t.size - (p + 1) = 0
          · have hsp := Lib.hid (spV_fail HBD.out fun h => ((HOK.out.1 h).2.2 hpt).2.1 (by rw [HFE.out, hF1]; exact hF0))
            have he := Lib.hid (is_empty (s := t.extract (p + 1) t.size) (by omega))
            have hF0' : t.size ≤ p + 1 := by omega
            clear hF0 h46
            go_wp2_with fail
            generalize t.extract (p + 1) t.size = G at *
            obtain rfl := he.out
            generalize hc : bN t p = c at *
            go_quiet (fail)
            rw [alloc_drewN]
            have hB := below_drewN (Below.refl w.heap.size w) nq
            have hS : w.heap.size = (w.drewN nq).heap.size := (drewN_heap w nq).symm
            generalize w.drewN nq = w1 at *
            rw [hS]
            go_wp2
            refine bodyPost_ret (v := spFail) (by simp [spFail, results, Tryd.results67, go_sem]) rfl ?_
            exact RetB.mk (by rw [hsp.out]) (hB.alloc (Nat.le_of_eq hS) _)
          have HF0 := Lib.hid (show (fp t).size ≠ 0 by rw [HFE.out, hF1]; exact hF0)
          have hF0' : 1 ≤ (t.extract (p + 1) t.size).size := by omega
          have hFne := ne_empty hF0'
          have hCF := fun w => Lib.hid (count_any (t.extract (p + 1) t.size) w (by omega))
          have hcl := cd_le (t.extract (p + 1) t.size)
          by_cases hcF : cd (t.extract (p + 1) t.size) < (t.extract (p + 1) t.size).size
          · have hsp := Lib.hid (spV_fail HBD.out fun h => by have h1 := ((HOK.out.1 h).2.2 hpt).2.2; rw [HFE.out] at h1; omega)
            generalize cd (t.extract (p + 1) t.size) = cf at *
            clear hF0 h46
            generalize hc : bN t p = c at *
            go_wp2_with fail
            go_quiet (first | (go_at_call 79; refine quiet_ret (hCF _).out))
            rw [alloc_drewN]
            have hB := below_drewN (Below.refl w.heap.size w) nq
            have hS : w.heap.size = (w.drewN nq).heap.size := (drewN_heap w nq).symm
            generalize w.drewN nq = w1 at *
            rw [hS]
            go_wp2
            refine bodyPost_ret (v := spFail) (by simp [spFail, results, Tryd.results67, go_sem]) rfl ?_
            exact RetB.mk (by rw [hsp.out]) (hB.alloc (Nat.le_of_eq hS) _)
          have HCF := Lib.hid (show cd (fp t) = (fp t).size by rw [HFE.out]; omega)
          generalize cd (t.extract (p + 1) t.size) = cf at *
          have hcF2 : (t.extract (p + 1) t.size).size ≤ cf := by omega
          clear hF0 h46
          generalize hc : bN t p = c at *
          go_wp2_with fail
          go_quiet (first | (go_at_call 79; refine quiet_ret (hCF _).out))
          rw [alloc_drewN]
          have hB := below_drewN (Below.refl w.heap.size w) nq
          have hS : w.heap.size = (w.drewN nq).heap.size := (drewN_heap w nq).symm
          generalize w.drewN nq = w1 at *
          rw [hS]
          clear hc hd hgp
          have hfp := HFP.out
          rw [if_pos hpt] at hfp
          have HFF := Lib.hid hfp; clear hfp
          have hip := HIP.out
          have HII := Lib.hid hip; clear hip
          have HPT := Lib.hid hpt
          have hcF3 : ¬ cf < t.size - (p + 1) := by omega
          clear hb hF1 hF0' hFne hcl hcF hcF2 hCF hix hC zt zs hp1 hpt
          generalize t.extract (p + 1) t.size = G at *
          generalize t.extract 0 p = I at *
          have hbI := get_bN I
          by_cases hp0 : p = 0
          · have hsp := Lib.hid (spV_fail HBD.out fun h => (HOK.out.1 h).1 hp0)
            have e0 : ((p : Int) == 0) = true := by rw [hp0]; rfl
            have e1 : p ≤ 0 := Nat.le_of_eq hp0
            clear hp0
            go_wp2
            refine bodyPost_ret (v := spFail) (by simp [spFail, results, Tryd.results67, go_sem]) rfl ?_
            exact RetB.mk (by rw [hsp.out]) (hB.alloc (Nat.le_of_eq hS) _)
          have e0 : ((p : Int) == 0) = false := beq_eq_false_iff_ne.2 (by omega)
          have e1 : 1 ≤ p := by omega
          have hI00 : bN I 0 = bN t 0 := hI0 (by omega)
          by_cases hld : 1 < p ∧ bN t 0 = 48
          · have hsp := Lib.hid (spV_fail HBD.out fun h => (HOK.out.1 h).2.1 hld)
            have e2 : ((bN t 0 : Int) == 48) = true := by rw [hld.2]; rfl
            have e3 : 1 < p := hld.1
            clear hld hp0
            generalize bN t 0 = d at *
            go_wp2
            refine bodyPost_ret (v := spFail) (by simp [spFail, results, Tryd.results67, go_sem]) rfl ?_
            exact RetB.mk (by rw [hsp.out]) (hB.alloc (Nat.le_of_eq hS) _)
          have hok := Lib.hid (HOK.out.2 ⟨hp0, hld, fun _ => ⟨HC46.out, HF0.out, HCF.out⟩⟩)
          by_cases h1p : 1 < p
          · have e2 : ((bN t 0 : Int) == 48) = false := beq_eq_false_iff_ne.2 (fun h => hld ⟨h1p, by omega⟩)
            clear hld hp0
            have hsp := Lib.hid (spV_ok HBD.out HNG.out hok.out (fun h => by cases h.1))
            rw [HII.out, HFF.out] at hsp
            generalize bN t 0 = d at *
            go_wp2
            refine bodyPost_ret (v := spOk false I G) (by simp [spOk, results, Tryd.results67, go_sem]) rfl ?_
            exact RetB.mk (by rw [hsp.out]) (hB.alloc (Nat.le_of_eq hS) _)
          · clear hld hp0
            have hsp := Lib.hid (spV_ok HBD.out HNG.out hok.out (fun h => by cases h.1))
            rw [HII.out, HFF.out] at hsp
            go_wp2
            refine bodyPost_ret (v := spOk false I G) (by simp [spOk, results, Tryd.results67, go_sem]) rfl ?_
            exact RetB.mk (by rw [hsp.out]) (hB.alloc (Nat.le_of_eq hS) _)
        · have hd : ((bN t p : Int) != 46) = true := bne_iff_ne.2 (by omega)
          have hsp := Lib.hid (spV_fail HBD.out fun h => h46 (((HOK.out.1 h).2.2 hpt).1))
          clear h46
          generalize hc : bN t p = c at *
          go_wp2_with fail
          go_quiet (fail)
          rw [alloc_drewN]
          have hB := below_drewN (Below.refl w.heap.size w) nq
          have hS : w.heap.size = (w.drewN nq).heap.size := (drewN_heap w nq).symm
          generalize w.drewN nq = w1 at *
          rw [hS]
          go_wp2
          refine bodyPost_ret (v := spFail) (by simp [spFail, results, Tryd.results67, go_sem]) rfl ?_
          exact RetB.mk (by rw [hsp.out]) (hB.alloc (Nat.le_of_eq hS) _)
      · have hfp := HFP.out
        rw [if_neg hpt] at hfp
        have HFF := Lib.hid hfp; clear hfp
        have hip := HIP.out
        have HII := Lib.hid hip; clear hip
        have HPT := Lib.hid hpt
        clear hb hC
        have hbI := get_bN (t.extract 0 p)
        by_cases hp0 : p = 0
        · have hsp := Lib.hid (spV_fail HBD.out fun h => (HOK.out.1 h).1 hp0)
          have e0 : ((p : Int) == 0) = true := by rw [hp0]; rfl
          have e1 : p ≤ 0 := Nat.le_of_eq hp0
          clear hp0
          go_wp2
          refine bodyPost_ret (v := spFail) (by simp [spFail, results, Tryd.results67, go_sem]) rfl ?_
          exact RetB.mk (by rw [hsp.out]) ((Below.refl _ _).alloc (Nat.le_refl _) _)
        have e0 : ((p : Int) == 0) = false := beq_eq_false_iff_ne.2 (by omega)
        have e1 : 1 ≤ p := by omega
        have hI00 : bN (t.extract 0 p) 0 = bN t 0 := hI0 (by omega)
        by_cases hld : 1 < p ∧ bN t 0 = 48
        · have hsp := Lib.hid (spV_fail HBD.out fun h => (HOK.out.1 h).2.1 hld)
          have e2 : ((bN t 0 : Int) == 48) = true := by rw [hld.2]; rfl
          have e3 : 1 < p := hld.1
          clear hld hp0
          generalize bN t 0 = d at *
          go_wp2
          refine bodyPost_ret (v := spFail) (by simp [spFail, results, Tryd.results67, go_sem]) rfl ?_
          exact RetB.mk (by rw [hsp.out]) ((Below.refl _ _).alloc (Nat.le_refl _) _)
        have hok := Lib.hid (HOK.out.2 ⟨hp0, hld, fun h => absurd h HPT.out⟩)
        by_cases h1p : 1 < p
        · have e2 : ((bN t 0 : Int) == 48) = false := beq_eq_false_iff_ne.2 (fun h => hld ⟨h1p, by omega⟩)
          clear hld hp0
          have hsp := Lib.hid (spV_ok HBD.out HNG.out hok.out (fun h => by cases h.1))
          rw [HII.out, HFF.out] at hsp
          generalize bN t 0 = d at *
          go_wp2
          refine bodyPost_ret (v := spOk false (t.extract 0 p) ⟨#[]⟩) (by simp [spOk, results, Tryd.results67, go_sem]) rfl ?_
          exact RetB.mk (by rw [hsp.out]) ((Below.refl _ _).alloc (Nat.le_refl _) _)
        · clear hld hp0
          have hsp := Lib.hid (spV_ok HBD.out HNG.out hok.out (fun h => by cases h.1))
          rw [HII.out, HFF.out] at hsp
          go_wp2
          refine bodyPost_ret (v := spOk false (t.extract 0 p) ⟨#[]⟩) (by simp [spOk, results, Tryd.results67, go_sem]) rfl ?_
          exact RetB.mk (by rw [hsp.out]) ((Below.refl _ _).alloc (Nat.le_refl _) _)
    · obtain rfl := is_empty h0
      have hsp := Lib.hid (spV_fail HBD.out fun h => h.1 rfl)
      go_enter Tryd.func67, Tryd.ntmps67
      go_wp2_with (go_at_call 79; refine (hC _).out.mono ?_; rintro e w' ⟨rfl, rfl⟩)
      refine bodyPost_ret (v := spFail) (by simp [spFail, results, Tryd.results67, go_sem]) rfl ?_
      exact RetB.mk (by rw [hsp.out]) ((Below.refl _ _).alloc (Nat.le_refl _) _)
end Go.Proofs.YtidlemedkjkmdaaDoor
