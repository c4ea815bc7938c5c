/- Package batch's Columns and Split. -/
import Derived.Test.YtjbkeipagdmlpaaBt6
namespace Go.RS
open Go.RowKit Go.VB Go.VS Go.VL Go.SC Go.CK Go.ST Go.MK
theorem prt_len {α : Type} {n : Nat} (hn : 0 < n) : ∀ (m : Nat) (l : List α), l.length ≤ m → (prt n l).length ≤ l.length
  | 0, l, h => by
    have : l = [] := List.eq_nil_of_length_eq_zero (by omega)
    subst this; rw [prt_nil]; simp
  | m + 1, l, h => by
    by_cases hl : l = []
    · subst hl; rw [prt_nil]; simp
    · have h1 := List.length_pos_iff.2 hl
      have h2 := prt_len hn m (l.drop n) (by rw [List.length_drop]; omega)
      rw [List.length_drop] at h2
      rw [prt_cons hn hl, List.length_cons]
      omega
def lenQ : Value → Nat
  | .slice _ n _ => n
  | _ => 0
section
variable {w : World} {B n c i : Nat} {ad : Addr} {l : List Rc}
theorem RdR.cutA (h : RdR w B (.slice (some ad) n c) l) (hi : i ≤ l.length) (hc : c = i) : RdR w B (.slice (some ad) (n - i) 0) (l.drop i) := by
  have := h.cutC hi
  rwa [if_pos hc, show c - i = 0 by omega] at this
theorem RdR.cutB (h : RdR w B (.slice (some ad) n c) l) (hi : i ≤ l.length) (hc : ¬ c = i) : RdR w B (.slice (some (ad.add (i * 2))) (n - i) (c - i)) (l.drop i) := by
  have := h.cutC hi
  rwa [if_neg hc] at this
end
end Go.RS
namespace Go.Proofs.Ytjbkeipagdmlpaa
open Go.RowKit Go.VB Go.VS Go.VL Go.SC Go.CK Go.ST Go.MK Go.RS
set_option linter.constructorNameAsVariable false
set_option maxRecDepth 100000 in
set_option maxHeartbeats 1000000 in
theorem bcols_any (x : Value) (l : List Rc) (n : Int) (W : World) (hx : RdR W W.heap.size x l) (hb : l.length * 32 ≤ 140737488351232) :
    Calls Try.prog 35 #[x, .int .i64 n] W (RetLL (colsL n l) W) := by
  by_cases h1 : n < 1
  · rw [colsL_out (.inl h1)]
    have hd : decide (n < 1) = true := decide_eq_true h1
    clear h1 hx hb
    go_enter Try.func35, Try.ntmps35
    go_wp2
    go_ret
    exact RetLL.mk rfl (RdLL.nil _ _) (Below.refl _ _)
  have hd1 : decide (n < 1) = false := decide_eq_false h1
  by_cases h2 : 12 < n
  · rw [colsL_out (.inr h2)]
    have hd : decide (12 < n) = true := decide_eq_true h2
    clear h1 h2 hx hb
    go_enter Try.func35, Try.ntmps35
    go_wp2
    go_ret
    exact RetLL.mk rfl (RdLL.nil _ _) (Below.refl _ _)
  have hd2 : decide (12 < n) = false := decide_eq_false h2
  obtain ⟨k, rfl⟩ : ∃ k : Nat, n = k := ⟨n.toNat, by omega⟩
  rw [colsL_in (by omega) (by omega)]
  have hmk1 := run_makeV (P := Try.prog) (z := .slice none 0 0) rfl Try.underlying29 Try.infSl k (by omega) (by unfold maxLen; omega) W
  have hrw0 := RowV.made Sl.val sl0 36 W W.heap.size k (Nat.le_refl _) (by unfold maxLen; omega)
  change RowV Sl.val 36 (W.alloc (.cells (madeCells #[.slice none 0 0] k) 36)) _ _ _ _ at hrw0
  have hb0 : Below W.heap.size W (W.alloc (.cells (madeCells #[.slice none 0 0] k) 36)) := (Below.refl _ _).alloc (Nat.le_refl _) _
  generalize (W.alloc (.cells (madeCells #[.slice none 0 0] k) 36)) = W1 at hrw0 hb0 hmk1
  have HX := Lib.hid hx; have HZ := Lib.hid hb; have HK := Lib.hid (show k ≤ 12 by omega)
  clear hx hb h1 h2
  go_enter Try.func35, Try.ntmps35
  go_wp2
  clear hmk1 hd1 hd2
  go_loopw [6, 17] (fun _ i wr => ∃ (j : Nat) (ps ds : List Sl), i = .int .i64 j ∧ j ≤ k ∧ RowV Sl.val 36 wr W.heap.size W.heap.size k ps ∧ Hid (ps.length = k) ∧ Hid (ps = ds ++ List.replicate (k - j) sl0) ∧ Hid (DeepLO 32 wr (W.heap.size + 1) ds ((List.range j).map fun c => colL c l)) ∧ Below W.heap.size W wr) (fun _ i _ => k - (intOf i).toNat)
  case atStart => exact ⟨0, _, [], rfl, Nat.zero_le _, hrw0, Lib.hid List.length_replicate, Lib.hid rfl, Lib.hid (DeepLO.nil _ _ _), hb0⟩
  case round =>
    clear hrw0 hb0
    obtain ⟨j, ps, ds, rfl, hj, hrw, HL, HQ, HD, hbel⟩ := hrel
    have hgw := hrw.lt.2
    have HDL := Lib.hid (show ds.length = j by rw [HD.out.1, List.length_map, List.length_range])
    by_cases hlt : j < k
    · have hv := Lib.hid (vals_any x l j wr ((HX.out.below hbel).more (by omega)) HZ.out)
      have HRW := Lib.hid hrw; have HBEL := Lib.hid hbel
      have hold := fill_at HQ.out HDL.out hlt
      have HOLD := Lib.hid hold
      clear hrw hbel hold
      go_wp2_with fail
      (with_reducible refine hv.out.mono ?_); rintro e w2 ⟨v, rfl, ho, hb2⟩
      obtain ⟨sA, sn, sc, rfl⟩ := ownL_sl ho
      have hr2 := HRW.out.below hb2
      have k0 := hr2.cell j sl0 HOLD.out
      have hf0 := hr2.frozen j
      have HRS := Lib.hid (hr2.store j ⟨sA, sn, sc⟩)
      have HSN := Lib.hid (fill_snoc (x := (⟨sA, sn, sc⟩ : Sl)) HQ.out HDL.out hlt)
      have HDN := Lib.hid (show DeepLO 32 (w2.setCell ⟨W.heap.size, j, none⟩ (.slice sA sn sc)) (W.heap.size + 1) (ds ++ [⟨sA, sn, sc⟩]) ((List.range (j + 1)).map fun c => colL c l) from by
        rw [List.range_succ, List.map_append]
        exact ((HD.out.below hb2).set (a := ⟨W.heap.size, j, none⟩) (Nat.lt_succ_self _) _).snoc (p := ⟨sA, sn, sc⟩) (ownsRow_setCell_below (ho.lower (b' := W.heap.size + 1) (by omega)) (a := ⟨W.heap.size, j, none⟩) (Nat.lt_succ_self _) _))
      have HBN := Lib.hid ((HBEL.out.trans (hb2.mono (Nat.le_of_lt hgw))).setCell (p := ⟨W.heap.size, j, none⟩) (Nat.le_refl _) (.slice sA sn sc))
      have hk12 := HK.out
      clear hr2 ho hb2 hv
      go_wp2_with fail
      go_roundw
      case rel => exact ⟨j + 1, _, ds ++ [⟨sA, sn, sc⟩], by go_num, hlt, HRS.out, Lib.hid (by rw [List.length_set]; exact HL.out), HSN, HDN, HBN.out⟩
      case measure => simp [intOf] <;> omega
    · obtain rfl : j = k := by omega
      have HF := Lib.hid (show ps = ds by rw [HQ.out, Nat.sub_self, List.replicate_zero, List.append_nil])
      have HRD := Lib.hid (show RdLL wr wr.heap.size (.slice (some ⟨W.heap.size, 0, none⟩) j j) ((List.range j).map fun c => colL c l) from ⟨ds, (hrw.own_at HL.out HF.out).read, HD.out.read⟩)
      go_wp2
      go_ret
      exact RetLL.mk rfl HRD.out hbel
set_option maxRecDepth 100000 in
set_option maxHeartbeats 1000000 in
theorem bsplit_any (x : Value) (l : List Rc) (n : Int) (W : World) (hx : RdR W W.heap.size x l) (hb : l.length * 32 ≤ 140737488351232) (hrow : ∀ r ∈ l, r.row.length * 32 ≤ 140737488351232) :
    Calls Try.prog 12 #[x, .int .i64 n] W (RetPO 24 41 32 (prtL n l) W) := by
  by_cases h1 : n < 1
  · rw [prtL_out h1]
    have hd : decide (n < 1) = true := decide_eq_true h1
    clear h1 hx hb
    go_enter Try.func12, Try.ntmps12
    go_wp2
    go_ret
    exact RetPO.mk rfl (OwnV.nil _ _ _ _) (DeepPO.nil _ _ _ _) (Below.refl _ _)
  have hd1 : decide (n < 1) = false := decide_eq_false h1
  obtain ⟨k, rfl⟩ : ∃ k : Nat, n = k := ⟨n.toNat, by omega⟩
  have hk1 : 1 ≤ k := by omega
  rw [prtL_in hk1]
  have HX := Lib.hid hx; have HZ := Lib.hid hb; have HRW := Lib.hid hrow
  clear hx hb h1 hrow
  go_enter Try.func12, Try.ntmps12
  go_wp2
  clear hd1
  go_loopw [0, 5, 6] (fun lv pv _ wr => ∃ (i : Nat) (ps : List Sl), RdR W W.heap.size lv (l.drop i) ∧ i ≤ l.length ∧ OwnV Sl.val 24 wr W.heap.size pv ps ∧ Hid (DeepPO 41 32 wr W.heap.size ps (prt k (l.take i))) ∧ Hid (i < l.length → ∃ q, i = k * q) ∧ Below W.heap.size W wr) (fun lv _ _ _ => lenQ lv)
  case atStart => exact ⟨0, [], by simpa using HX.out, Nat.zero_le _, OwnV.nil _ _ _ _, Lib.hid (by rw [List.take_zero, prt_nil]; exact DeepPO.nil _ _ _ _), Lib.hid (fun _ => ⟨0, rfl⟩), Below.refl _ _⟩
  case round =>
    clear HX
    obtain ⟨i, ps, hrd, hi, hown, HD, HI, hbel⟩ := hrel
    obtain ⟨A, c, m, rfl, hm, hmc, hcm⟩ := hrd.bds
    have HM := Lib.hid (show m = l.length - i by rw [hm, List.length_drop])
    clear hm
    by_cases h0 : m = 0
    · subst h0
      have HF := Lib.hid (show l.take i = l from List.take_of_length_le (by have := HM.out; omega))
      have hd := HD.out
      rw [HF.out] at hd
      have HD2 := Lib.hid hd
      clear hd hrd HD HI
      go_wp2
      go_ret
      exact RetPO.mk rfl hown HD2.out hbel
    have hil : i < l.length := by have := HM.out; omega
    obtain ⟨y, hy⟩ : ∃ y, (l.drop i)[0]? = some y := ⟨(l.drop i)[0]'(by rw [List.length_drop]; omega), List.getElem?_eq_getElem _⟩
    obtain ⟨ad, -, -, -, rfl, -⟩ := hrd.at hy
    obtain ⟨sz, hsz⟩ : ∃ sz, sz = min k m := ⟨_, rfl⟩
    have hs1 : 1 ≤ sz := by omega
    have hsm : sz ≤ m := by omega
    have HST := Lib.hid (prt_step (n := k) (i := i) (k := sz) (by omega) hil (HI.out hil) (by rw [← HM.out]; exact hsz))
    have HIN := Lib.hid (show i + sz < l.length → ∃ q, i + sz = k * q from fun h => by
      obtain ⟨q, hq⟩ := HI.out hil
      have h2 := HM.out
      exact ⟨q + 1, by rw [Nat.mul_add, Nat.mul_one, ← hq]; omega⟩)
    have hcp := Lib.hid (copy0_any (.slice (some ad) sz c) ((l.drop i).take sz) wr (((hrd.below hbel).more hbel.size).head (by rw [List.length_drop]; have := HM.out; omega)) (by have := HZ.out; rw [List.length_take, List.length_drop]; omega) (fun r hr => HRW.out r (List.mem_of_mem_drop (List.mem_of_mem_take hr))))
    have HPL := Lib.hid (show ps.length ≤ 4398046510976 by
      have h2 := prt_len (n := k) (by omega) _ (l.take i) (Nat.le_refl _)
      have h3 := HD.out.1
      rw [List.length_take] at h2
      have := HZ.out
      omega)
    have hsd : sz ≤ (l.drop i).length := by rw [List.length_drop]; have := HM.out; omega
    have hdd : (l.drop i).drop sz = l.drop (i + sz) := by rw [List.drop_drop]
    have HCA := Lib.hid (show c = sz → RdR W W.heap.size (.slice (some ad) (m - sz) 0) (l.drop (i + sz)) from fun h => by rw [← hdd]; exact hrd.cutA hsd h)
    have HCB := Lib.hid (show ¬ c = sz → RdR W W.heap.size (.slice (some (ad.add (sz * 2))) (m - sz) (c - sz)) (l.drop (i + sz)) from fun h => by rw [← hdd]; exact hrd.cutB hsd h)
    have HCC := Lib.hid (show RdR W W.heap.size (.slice (if c = sz then some ad else some (ad.add (sz * 2))) (m - sz) (c - sz)) (l.drop (i + sz)) from by rw [← hdd]; exact hrd.cutC hsd)
    have HIL := Lib.hid (show i + sz ≤ l.length by have := HM.out; omega)
    have HOWN := Lib.hid hown; have HBEL := Lib.hid hbel
    have hsi : (sz : Int) ≤ (m : Int) := by omega
    have hsc : (sz : Int) ≤ (c : Int) := by omega
    have hd0 : decide ((0 : Int) < (m : Int)) = true := decide_eq_true (by omega)
    have hd0' : decide (0 < m) = true := decide_eq_true (by omega)
    have hcase : (sz = m ∧ m < k) ∨ (sz = k ∧ k ≤ m) := by omega
    clear hrd hown hbel hy hsz hil hsd hdd HI hi
    rcases hcase with ⟨rfl, hmk⟩ | ⟨rfl, hmk⟩
    all_goals
      have hmk' := Int.ofNat_le.2 (Nat.le_of_lt_succ (Nat.lt_succ_of_le (show _ ≤ _ by first | exact Nat.le_of_lt hmk | exact hmk)))
      go_wp2_with fail
      (with_reducible refine hcp.out.mono ?_); rintro e w1 ⟨v1, rfl, ho1, hb1⟩
      obtain ⟨sA, sn, sc, rfl⟩ := ownRs_sl ho1
      have hbl := (Below.refl w1.heap.size w1).alloc (Nat.le_refl _) (.cells #[.slice sA sn sc] 24)
      have hwW : W.heap.size ≤ wr.heap.size := HBEL.out.size
      have HO1 := Lib.hid ((HOWN.out.below hb1).alloc (.cells #[.slice sA sn sc] 24))
      have HP1 := Lib.hid ((ho1.lower hwW).below hbl)
      have HD1 := Lib.hid ((HD.out.below hb1).below hbl)
      have HRD := Lib.hid (RdV.one Sl.val w1 (⟨sA, sn, sc⟩ : Sl) 1 24 (Nat.le_refl 1) (by decide))
      have HLE := Lib.hid (show W.heap.size ≤ (w1.alloc (.cells #[.slice sA sn sc] 24)).heap.size from Nat.le_trans hwW (Nat.le_trans hb1.size hbl.size))
      have HBB := Lib.hid ((HBEL.out.trans (hb1.mono hwW)).trans (hbl.mono (Nat.le_trans hwW hb1.size)))
      clear hb1 hbl ho1 hcp HOWN HD HBEL
      go_wp2_with (at_builtin; refine wpl_appV (f := Sl.val) (fun _ => rfl) (.slice none 0 0) rfl rfl _ _ 22 rfl W.heap.size 24 24 Try.underlying22 Try.infSr _ ps rfl HO1.out _ _ [⟨sA, sn, sc⟩] rfl HRD.out (by have := HPL.out; unfold maxLen; simp only [List.length_cons, List.length_nil]; omega) (by have := HPL.out; simp only [List.length_cons, List.length_nil]; omega) HLE.out ?_)
      intro v' w' hown' hb' hg'
      have hdn := (HD1.out.keep HO1.out (by decide) (by decide) hg').snoc (p := ⟨sA, sn, sc⟩) (HP1.out.keep HO1.out (by decide) (by decide) hg')
      rw [← HST.out] at hdn
      have HDN := Lib.hid hdn
      clear hdn
      have HBN := Lib.hid (HBB.out.trans hb')
      clear hb' hg' HD1 HP1 HO1 HBB
      go_wp2_with fail
      all_goals go_roundw
      all_goals first
        | (simp only [lenQ]; omega)
        | exact ⟨_, _, _, ⟨i + sz, _, (by first | exact HCC.out | (have h := HCC.out; rw [Nat.sub_self] at h; exact h) | exact HCA.out (by assumption) | exact HCB.out (by assumption)), HIL.out, hown', HDN, HIN, HBN.out⟩, rfl, rfl, rfl⟩
        | exact ⟨i + sz, _, (by first | exact HCC.out | (have h := HCC.out; rw [Nat.sub_self] at h; exact h) | exact HCA.out (by assumption) | exact HCB.out (by assumption)), HIL.out, hown', HDN, HIN, HBN.out⟩
end Go.Proofs.Ytjbkeipagdmlpaa
