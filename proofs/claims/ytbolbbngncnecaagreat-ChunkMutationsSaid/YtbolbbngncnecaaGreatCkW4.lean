/- The walks over package chunk: splitNulls, joinNulls, putNulls, getNulls. -/
import Derived.Test.YtbolbbngncnecaaGreatCkW2
import Derived.Test.YtbolbbngncnecaaGreatChk8
import Derived.Test.YtbolbbngncnecaaGreatGE
import Derived.Test.YtbolbbngncnecaaGreatG8
namespace Go.VS
open Go.RowKit Go.VB
theorem OwnL.setO {e : TypeId} {w : World} {base b i : Nat} {v : Value} {l : List Vl} (h : OwnL e w base v l) (hb : b < base) (x : Value) : OwnL e (w.setCell ⟨b, i, none⟩ x) base v l :=
  ownsRow_setCell_other h (a := ⟨b, i, none⟩) (fun e => by have := (OwnL.lt h b e).1; omega) x
end Go.VS
namespace Go.CK
open Go.RowKit Go.VB Go.VarM Go.VS
theorem marks_snoc {l : List Vl} {j : Nat} {x : Vl} (h : l[j]? = some x) : marks (l.take (j + 1)) = marks (l.take j) ++ [x.nu] := take_map_snoc h
theorem marks_take_len {l : List Vl} {j : Nat} (h : j ≤ l.length) : (marks (l.take j)).length = j := take_map_len _ h
/-- It returns the marks and the values that are not null. -/
def RetSp (l : List Vl) (w : World) : Ending → World → Prop := fun en w' => ∃ v1 v2, en = .returned (.tuple #[v1, v2]) ∧ RdV Value.bool w' w'.heap.size v1 (marks l) ∧ RdL w' w'.heap.size v2 (some' l) ∧ Below w.heap.size w w'
theorem RetSp.mk {l : List Vl} {w w' : World} {x v1 v2 : Value} (hx : x = .tuple #[v1, v2]) (h1 : RdV Value.bool w' w'.heap.size v1 (marks l)) (h2 : RdL w' w'.heap.size v2 (some' l)) (hb : Below w.heap.size w w') : RetSp l w (.returned x) w' := ⟨v1, v2, by rw [hx], h1, h2, hb⟩
theorem run_add_2 {P : Program} (a b : List UInt8) (h : a.length + b.length ≤ 4611686018427387904) (w : World) : (Op.stringOp .add (str a) (str b)).run P w = .ok (.string (str (a ++ b))) w := by
  rw [run_string_add_sum w (str a) (str b) (by rw [str_size, str_size]; omega), str_append]
end Go.CK
namespace Go.Proofs.YtbolbbngncnecaaGreat
open Go.RowKit Go.VB Go.VarM Go.BP Go.RL Go.VS Go.VL Go.DI Go.CK Go.NU
theorem Tryz.infBool : (Tryz.prog.info? 4).map (fun i => (i.zero, i.size, i.bytes)) = some (some (.bool false), 1, 1) := by kernel_rfl
set_option maxRecDepth 100000 in
set_option maxHeartbeats 4000000 in
theorem split_any (v : Value) (l : List Vl) (W : World) (hr : RdL W W.heap.size v l) (hl : l.length ≤ 4096) :
    Calls Tryz.prog 29 #[v] W (RetSp l W) := by
  obtain ⟨A, c, _, rfl, rfl, hc1, hc2⟩ := hr.bds
  have HR := Lib.hid hr; clear hr
  have hmk1 := run_makeV (P := Tryz.prog) (z := .bool false) rfl Tryz.underlying45 Tryz.infBool l.length (by omega) (by unfold maxLen; omega) W
  have hrow := RowV.made Value.bool false 4 W W.heap.size l.length (Nat.le_refl _) (by unfold maxLen; omega)
  have hb0 : Below W.heap.size W (W.alloc (.cells (madeCells #[.bool false] l.length) 4)) := (Below.refl _ _).alloc (Nat.le_refl _) _
  have hs0 : (W.alloc (.cells (madeCells #[.bool false] l.length) 4)).heap.size = W.heap.size + 1 := by simp
  generalize (W.alloc (.cells (madeCells #[.bool false] l.length) 4)) = W1 at hmk1 hrow hb0 hs0
  have hmk2 := run_make30 (P := Tryz.prog) Tryz.underlying28 Tryz.infVal l.length (by omega) (by unfold maxLen; omega) W1
  have hown := OwnL.made0 42 W1 (W.heap.size + 1) l.length (by omega) (by unfold maxLen; omega)
  have hb1 : Below W.heap.size W (W1.alloc (.cells (madeCells #[.bool false, .int .i64 0, .string ⟨#[]⟩] (l.length * 3)) 42)) := hb0.alloc (by omega) _
  replace hrow := hrow.alloc (.cells (madeCells #[.bool false, .int .i64 0, .string ⟨#[]⟩] (l.length * 3)) 42)
  generalize (W1.alloc (.cells (madeCells #[.bool false, .int .i64 0, .string ⟨#[]⟩] (l.length * 3)) 42)) = W2 at hmk2 hrow hb1 hown
  rw [hs0] at hmk2 hown
  clear hb0
  go_enter Tryz.func29, Tryz.ntmps29
  go_wp2
  clear hmk1 hmk2
  go_loopw [5, 16] (fun pv i wr => ∃ (j : Nat) (ls : List Bool), i = .int .i64 j ∧ j ≤ l.length ∧ RowV Value.bool 4 wr W.heap.size W.heap.size l.length ls ∧ ls.length = l.length ∧ ls = marks (l.take j) ++ List.replicate (l.length - j) false ∧
      OwnL 42 wr (W.heap.size + 1) pv (some' (l.take j)) ∧ Below W.heap.size W wr) (fun _ i _ => l.length - (intOf i).toNat)
  case atStart => exact ⟨0, _, rfl, Nat.zero_le _, hrow, List.length_replicate, rfl, hown, hb1⟩
  case round =>
    clear hrow hown hb1 hs0
    obtain ⟨j, ls, rfl, hj, hrw, hlen, hls, hown, hbel⟩ := hrel
    have HL := Lib.hid hlen; have HLS := Lib.hid hls; clear hlen hls
    by_cases hlt : j < l.length
    · have hlj : l[j]? = some l[j] := List.getElem?_eq_getElem hlt
      obtain ⟨ad, rfl, _, q0, q1, q2⟩ := (HR.out.below hbel).at hlj
      have HJ := Lib.hid hlj; clear hlj
      generalize l[j] = X at q0 q1 q2 HJ
      obtain ⟨xb, xn, xs⟩ := X
      simp only at q0 q1 q2
      have hold := fill_at HLS.out (marks_take_len hj) hlt
      have hcell := (hrw.alloc (.cells #[.bool xb, .int .i64 xn, .string xs] 42)).cell j _ hold
      have hfro := (hrw.alloc (.cells #[.bool xb, .int .i64 xn, .string xs] 42)).frozen j
      have hgw := hrw.lt.2
      have HSN := Lib.hid (fill_snoc (x := xb) HLS.out (marks_take_len hj) hlt)
      have HMS := Lib.hid (marks_snoc HJ.out)
      have HSS := Lib.hid (some_snoc HJ.out)
      have HRS := Lib.hid ((hrw.store j xb).alloc (.cells #[.bool xb, .int .i64 xn, .string xs] 42))
      have HOS := Lib.hid ((hown.setO (b := W.heap.size) (i := j) (Nat.lt_succ_self _) (.bool xb)).alloc (.cells #[.bool xb, .int .i64 xn, .string xs] 42))
      have HBS := Lib.hid ((hbel.setCell (p := ⟨W.heap.size, j, none⟩) (Nat.le_refl _) (.bool xb)).alloc (by rw [World.size_setCell]; exact hbel.size) (.cells #[.bool xb, .int .i64 xn, .string xs] 42))
      have hsm := some_len (l.take j)
      have hlt2 : (l.take j).length ≤ 4096 := by rw [List.length_take]; omega
      generalize some' (l.take j) = m at *
      clear hrw hown hold
      cases xb
      · have HA := Lib.hid (show (((wr.setCell ⟨W.heap.size, j, none⟩ (.bool false)).alloc (.cells #[.bool false, .int .i64 xn, .string xs] 42)).heap.size = wr.heap.size + 1) by simp)
        have HX := Lib.hid (RdL.lit ((wr.setCell ⟨W.heap.size, j, none⟩ (.bool false)).alloc (.cells #[.bool false, .int .i64 xn, .string xs] 42)) [⟨false, xn, xs⟩] 1 42 (Nat.le_refl 1) (by decide))
        have HX2 : Hid (RdL (((wr.setCell ⟨W.heap.size, j, none⟩ (.bool false)).alloc (.cells #[.bool false, .int .i64 xn, .string xs] 42)).alloc (.cells #[.bool false, .int .i64 xn, .string xs] 42)) (wr.heap.size + 1 + 1) (.slice (some ⟨wr.heap.size + 1, 0, none⟩) 1 1) [⟨false, xn, xs⟩]) := by
          have h := HX.out
          rw [HA.out] at h
          exact Lib.hid h
        have HO := Lib.hid (HOS.out.alloc (.cells #[.bool false, .int .i64 xn, .string xs] 42))
        have HRA := Lib.hid (HRS.out.alloc (.cells #[.bool false, .int .i64 xn, .string xs] 42))
        have HBA := Lib.hid (HBS.out.alloc HBS.out.size (.cells #[.bool false, .int .i64 xn, .string xs] 42))
        have HL1 := Lib.hid (show m.length + [(⟨false, xn, xs⟩ : Vl)].length ≤ 1000000 by simp only [List.length_cons, List.length_nil]; omega)
        have HL3 := Lib.hid (show W.heap.size + 1 ≤ (((wr.setCell ⟨W.heap.size, j, none⟩ (.bool false)).alloc (.cells #[.bool false, .int .i64 xn, .string xs] 42)).alloc (.cells #[.bool false, .int .i64 xn, .string xs] 42)).heap.size by simp; omega)
        clear HX HA HOS HRS HBS
        go_wp2_with (at_builtin; refine wpl_appL rfl _ _ 28 rfl (W.heap.size + 1) 42 Tryz.underlying28 Tryz.infVal _ m rfl HO.out _ _ [⟨false, xn, xs⟩] rfl HX2.out HL1.out HL3.out ?_)
        intro v' w' hown' hb' _
        go_wp2_with fail
        go_roundw
        case rel => exact ⟨j + 1, _, by go_num, hlt, HRA.out.belowB hb' (Nat.lt_succ_self _), by rw [List.length_set]; exact HL.out, by rw [HSN.out, HMS.out], by rw [HSS.out]; exact hown', HBA.out.trans (hb'.mono (Nat.le_succ _))⟩
        case measure => simp [intOf] <;> omega
      · go_wp2_with fail
        go_roundw
        case rel => exact ⟨j + 1, _, by go_num, hlt, HRS.out, by rw [List.length_set]; exact HL.out, by rw [HSN.out, HMS.out], by rw [HSS.out]; exact HOS.out, HBS.out⟩
        case measure => simp [intOf] <;> omega
    · have HF := Lib.hid (show ls = marks l by rw [HLS.out, show l.take j = l from List.take_of_length_le (by omega), show l.length - j = 0 by omega, List.replicate_zero, List.append_nil])
      have HT := Lib.hid (show l.take j = l from List.take_of_length_le (by omega))
      have H1 := Lib.hid (show RdV Value.bool wr wr.heap.size (.slice (some ⟨W.heap.size, 0, none⟩) l.length l.length) (marks l) from (hrw.own_at HL.out HF.out).read)
      have h2 := hown.read
      rw [HT.out] at h2
      have H2 := Lib.hid h2
      clear h2
      clear hrw hown
      go_wp2
      go_ret2
      exact RetSp.mk rfl H1.out H2.out hbel
set_option maxRecDepth 100000 in
set_option maxHeartbeats 4000000 in
theorem join_any (v1 v2 : Value) (b : List Bool) (l : List Vl) (W : World) (hr1 : RdV Value.bool W W.heap.size v1 b) (hr2 : RdL W W.heap.size v2 l) (hl : b.length ≤ 4096) (hc : l.length = b.count false) :
    Calls Tryz.prog 58 #[v1, v2] W (RetVl 42 (weave b l) W) := by
  obtain ⟨A1, c1, _, rfl, rfl, hc1, hc2⟩ := hr1.bds
  obtain ⟨A2, c2, _, rfl, rfl, hc3, hc4⟩ := hr2.bds
  have HR1 := Lib.hid hr1; have HR2 := Lib.hid hr2; have HC := Lib.hid hc; clear hr1 hr2 hc
  have hcl := List.count_le_length (a := false) (l := b)
  have hll : l.length ≤ 4096 := by rw [HC.out]; omega
  clear hcl
  have hmk1 := run_make3 (P := Tryz.prog) Tryz.underlying28 Tryz.infVal b.length (by omega) (by unfold maxLen; omega) W
  have hrow := RowL.made 42 W W.heap.size b.length (Nat.le_refl _) (by unfold maxLen; omega)
  have hb0 : Below W.heap.size W (W.alloc (.cells (madeCells #[.bool false, .int .i64 0, .string ⟨#[]⟩] (b.length * 3)) 42)) := (Below.refl _ _).alloc (Nat.le_refl _) _
  generalize (W.alloc (.cells (madeCells #[.bool false, .int .i64 0, .string ⟨#[]⟩] (b.length * 3)) 42)) = W1 at hrow hb0 hmk1
  go_enter Tryz.func58, Tryz.ntmps58
  go_wp2
  clear hmk1
  go_loopw [6, 14] (fun u i wr => ∃ (j k : Nat) (ls : List Vl), i = .int .i64 j ∧ u = .int .i64 k ∧ j ≤ b.length ∧ k = (b.take j).count false ∧ k ≤ 4096 ∧ RowL 42 wr W.heap.size W.heap.size b.length ls ∧ ls.length = b.length ∧ ls = weave (b.take j) l ++ List.replicate (b.length - j) vl0 ∧ Below W.heap.size W wr) (fun _ i _ => b.length - (intOf i).toNat)
  case atStart => exact ⟨0, 0, _, rfl, rfl, Nat.zero_le _, rfl, Nat.zero_le _, hrow, List.length_replicate, rfl, hb0⟩
  case round =>
    clear hrow hb0
    obtain ⟨j, k, ls, rfl, rfl, hj, hk, hk4, hrw, hlen, hls, hbel⟩ := hrel
    have HL := Lib.hid hlen; have HLS := Lib.hid hls; have HK := Lib.hid hk; clear hlen hls hk
    have HWL := Lib.hid (show (weave (b.take j) l).length = j by rw [weave_len, List.length_take]; omega)
    by_cases hlt : j < b.length
    · have hlj : b[j]? = some b[j] := List.getElem?_eq_getElem hlt
      obtain ⟨ad, rfl, _, q0⟩ := (HR1.out.below hbel).at hlj
      have HJ := Lib.hid hlj; clear hlj
      generalize b[j] = X at q0 HJ
      replace q0 : wr.cell? (ad.add j) = some (.bool X) := q0
      have hold := fill_at HLS.out HWL.out hlt
      obtain ⟨k0, k1, k2⟩ := hrw.at hold
      have hf0 := hrw.frozen (j * 3)
      have hf1 := hrw.frozen (j * 3 + 1)
      have hf2 := hrw.frozen (j * 3 + 2)
      have hgw := hrw.lt.2
      cases X
      · have hkl : k < l.length := by rw [HC.out, HK.out]; exact count_lt HJ.out
        have hlk : l[k]? = some l[k] := List.getElem?_eq_getElem hkl
        obtain ⟨ad2, rfl, hab, p0, p1, p2⟩ := (HR2.out.below hbel).at hlk
        have HGD := Lib.hid (show l.getD ((b.take j).count false) vl0 = l[k] by rw [← HK.out, List.getD_eq_getElem?_getD, hlk]; rfl)
        clear hlk
        generalize l[k] = Y at p0 p1 p2 HGD
        obtain ⟨yb, yn, ys⟩ := Y
        simp only at p0 p1 p2
        have HRS := Lib.hid (hrw.put j ⟨yb, yn, ys⟩ hold)
        have HSN := Lib.hid (fill_snoc (x := (⟨yb, yn, ys⟩ : Vl)) HLS.out HWL.out hlt)
        have HW := Lib.hid (weave_snoc (l := l) HJ.out)
        have HCN := Lib.hid (count_snoc HJ.out)
        clear hrw hold
        go_wp2_with fail
        go_roundw
        case rel => exact ⟨j + 1, k + 1, _, by go_num, by go_num, hlt, by rw [HCN.out, HK.out]; rfl, by omega, HRS.out, by rw [List.length_set]; exact HL.out, by rw [HSN.out, HW.out, ← HGD.out]; rfl, set3_belowL hbel (Nat.le_refl _) _ _ _ _⟩
        case measure => simp [intOf] <;> omega
      · have HRS := Lib.hid (hrw.store j 0 (.bool true) (x := vl0) (x' := nulV) hold (by decide) rfl)
        have HSN := Lib.hid (fill_snoc (x := nulV) HLS.out HWL.out hlt)
        have HW := Lib.hid (weave_snoc (l := l) HJ.out)
        have HCN := Lib.hid (count_snoc HJ.out)
        clear hrw hold
        go_wp2_with fail
        go_roundw
        case rel => exact ⟨j + 1, k, _, by go_num, rfl, hlt, by rw [HCN.out, HK.out]; rfl, by omega, HRS.out, by rw [List.length_set]; exact HL.out, by rw [HSN.out, HW.out]; rfl, hbel.setCell (Nat.le_refl _) _⟩
        case measure => simp [intOf] <;> omega
    · have HF := Lib.hid (show ls = weave b l by rw [HLS.out, show b.take j = b from List.take_of_length_le (by omega), show b.length - j = 0 by omega, List.replicate_zero, List.append_nil])
      go_wp2
      go_ret
      exact RetVl.mk rfl (hrw.own_at HL.out HF.out) hbel
set_option maxRecDepth 100000 in
set_option maxHeartbeats 1000000 in
theorem putNulls_any (v : Value) (b : List Bool) (W : World) (hr : RdV Value.bool W W.heap.size v b) (hl : b.length ≤ 4096) :
    Calls Tryz.prog 31 #[v] W (RetB (.string (str (nulB b))) W) := by
  have HP := Lib.hid (npack_any v b W.heap.size W hr (Nat.le_refl _) (by omega))
  have hsz := bmp_size b
  have HC := fun w => Lib.hid (ncount_any (bmp b) w (by omega))
  rw [hsz, ones_bmp] at HC
  have hcl := List.count_le_length (a := true) (l := b)
  have HV1 := fun w => Lib.hid (vput_any b.length w (by omega))
  have HV2 := fun w => Lib.hid (vput_any (b.count true) w (by omega))
  have l1 := putL_len10 (n := b.length) (by omega)
  have l2 := putL_len10 (n := b.count true) (by omega)
  have ha1 := fun w => run_add_2 (P := Tryz.prog) (putL b.length) (putL (b.count true)) (by omega) w
  have ha2 := fun w => run_add_2 (P := Tryz.prog) (putL b.length ++ putL (b.count true)) (bmp b).data.toList (by rw [List.length_append, size_list]; omega) w
  rw [str_of] at ha2
  obtain ⟨A, c, _, rfl, rfl, hc1, hc2⟩ := hr.bds
  clear hr hsz
  unfold nulB
  generalize hB : bmp b = B at *
  generalize hk : b.count true = k at *
  clear hB hk
  have w1 : wrap64 (b.length : Int) = (b.length : Int) := by unfold wrap64; omega
  have w2 : wrap64 (k : Int) = (k : Int) := by unfold wrap64; omega
  by_cases h0 : k = 0
  · rw [if_pos h0, List.append_nil]
    have hd : ((k : Int) == 0) = true := ieq_t (by omega)
    clear ha2 h0
    go_enter Tryz.func31, Tryz.ntmps31
    go_wp2_with fail
    refine HP.out.mono ?_; rintro e w1 ⟨rfl, hb1⟩
    go_wp2_with fail
    refine (HC _).out.mono ?_; rintro e w2 ⟨rfl, rfl⟩
    go_wp2_with fail
    refine (HV1 _).out.mono ?_; rintro e w3 ⟨rfl, hb3⟩
    go_wp2_with fail
    refine (HV2 _).out.mono ?_; rintro e w4 ⟨rfl, hb4⟩
    have hB := bel_trans (bel_trans hb1 hb3) hb4
    clear hb1 hb3 hb4
    go_wp2
    go_ret
    exact RetB.mk rfl hB
  · rw [if_neg h0]
    have hd : ((k : Int) == 0) = false := ieq_f (by omega)
    clear h0
    go_enter Tryz.func31, Tryz.ntmps31
    go_wp2_with fail
    refine HP.out.mono ?_; rintro e w1 ⟨rfl, hb1⟩
    go_wp2_with fail
    refine (HC _).out.mono ?_; rintro e w2 ⟨rfl, rfl⟩
    go_wp2_with fail
    refine (HV1 _).out.mono ?_; rintro e w3 ⟨rfl, hb3⟩
    go_wp2_with fail
    refine (HV2 _).out.mono ?_; rintro e w4 ⟨rfl, hb4⟩
    have hB := bel_trans (bel_trans hb1 hb3) hb4
    clear hb1 hb3 hb4
    go_wp2
    go_ret
    exact RetB.mk (by rw [List.append_assoc]; rfl) hB
end Go.Proofs.YtbolbbngncnecaaGreat
