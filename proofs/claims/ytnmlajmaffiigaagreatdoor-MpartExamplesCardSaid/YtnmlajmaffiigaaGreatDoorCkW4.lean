/- The walks over package chunk: splitNulls, joinNulls, putNulls, getNulls. -/
import Derived.Test.YtnmlajmaffiigaaGreatDoorCkW1
import Derived.Test.YtnmlajmaffiigaaGreatDoorChk
import Derived.Test.YtnmlajmaffiigaaGreatDoorGe
import Derived.Test.YtnmlajmaffiigaaGreatDoorGg
import Derived.Test.YtnmlajmaffiigaaGreatDoorGn
import Derived.Test.YtnmlajmaffiigaaGreatDoorDlt
import Derived.Deep.CutRange
import Derived.Deep.RegionWith
namespace Go.VS
open Go.RowKit Go.VB
theorem OwnL.setO {e : TypeId} {w : World} {base b i : Nat} {v : Value} {l : List Vl} (h : OwnL e w base v l) (hb : b < base) (x : Value) : OwnL e (w.setCell ⟨b, i, none⟩ x) base v l :=
  ownsRow_setCell_other h (a := ⟨b, i, none⟩) (fun e => by have := (OwnL.lt h b e).1; omega) x
end Go.VS
namespace Go.CK
open Go.RowKit Go.VB Go.VarM Go.VS
theorem marks_snoc {l : List Vl} {j : Nat} {x : Vl} (h : l[j]? = some x) : marks (l.take (j + 1)) = marks (l.take j) ++ [x.nu] := take_map_snoc h
theorem marks_take_len {l : List Vl} {j : Nat} (h : j ≤ l.length) : (marks (l.take j)).length = j := take_map_len _ h
/-- It returns the marks and the values that are not null. -/
def RetSp (l : List Vl) (w : World) : Ending → World → Prop := fun en w' => ∃ v1 v2, en = .returned (.tuple #[v1, v2]) ∧ RdV Value.bool w' w'.heap.size v1 (marks l) ∧ RdL w' w'.heap.size v2 (some' l) ∧ Below w.heap.size w w'
theorem RetSp.mk {l : List Vl} {w w' : World} {x v1 v2 : Value} (hx : x = .tuple #[v1, v2]) (h1 : RdV Value.bool w' w'.heap.size v1 (marks l)) (h2 : RdL w' w'.heap.size v2 (some' l)) (hb : Below w.heap.size w w') : RetSp l w (.returned x) w' := ⟨v1, v2, by rw [hx], h1, h2, hb⟩
theorem run_add_2 {P : Program} (a b : List UInt8) (h : a.length + b.length ≤ 4611686018427387904) (w : World) : (Op.stringOp .add (str a) (str b)).run P w = .ok (.string (str (a ++ b))) w := by
  rw [run_string_add_sum w (str a) (str b) (by rw [str_size, str_size]; omega), str_append]
end Go.CK
namespace Go.Proofs.YtnmlajmaffiigaaGreatDoor
open Go.RowKit Go.VB Go.VarM Go.BP Go.RL Go.VS Go.VL Go.DI Go.CK Go.NU
theorem Tryz.infBool : (Tryz.prog.info? 4).map (fun i => (i.zero, i.size, i.bytes)) = some (some (.bool false), 1, 1) := by kernel_rfl
set_option maxRecDepth 100000 in
set_option maxHeartbeats 4000000 in
theorem split_any (v : Value) (l : List Vl) (W : World) (hr : RdL W W.heap.size v l) (hl : l.length ≤ 4096) :
    Calls Tryz.prog 119 #[v] W (RetSp l W) := by
  obtain ⟨A, c, _, rfl, rfl, hc1, hc2⟩ := hr.bds
  have HR := Lib.hid hr; clear hr
  have hmk1 := run_makeV (P := Tryz.prog) (z := .bool false) rfl Tryz.underlying159 Tryz.infBool l.length (by omega) (by unfold maxLen; omega) W
  have hrow := RowV.made Value.bool false 4 W W.heap.size l.length (Nat.le_refl _) (by unfold maxLen; omega)
  have hb0 : Below W.heap.size W (W.alloc (.cells (madeCells #[.bool false] l.length) 4)) := (Below.refl _ _).alloc (Nat.le_refl _) _
  have hs0 : (W.alloc (.cells (madeCells #[.bool false] l.length) 4)).heap.size = W.heap.size + 1 := by simp
  generalize (W.alloc (.cells (madeCells #[.bool false] l.length) 4)) = W1 at hmk1 hrow hb0 hs0
  have hmk2 := run_make30 (P := Tryz.prog) Tryz.underlying63 Tryz.infVal l.length (by omega) (by unfold maxLen; omega) W1
  have hown := OwnL.made0 49 W1 (W.heap.size + 1) l.length (by omega) (by unfold maxLen; omega)
  have hb1 : Below W.heap.size W (W1.alloc (.cells (madeCells #[.bool false, .int .i64 0, .string ⟨#[]⟩] (l.length * 3)) 49)) := hb0.alloc (by omega) _
  replace hrow := hrow.alloc (.cells (madeCells #[.bool false, .int .i64 0, .string ⟨#[]⟩] (l.length * 3)) 49)
  generalize (W1.alloc (.cells (madeCells #[.bool false, .int .i64 0, .string ⟨#[]⟩] (l.length * 3)) 49)) = W2 at hmk2 hrow hb1 hown
  rw [hs0] at hmk2 hown
  clear hb0
  go_enter Tryz.func119, Tryz.ntmps119
  go_wp2
  clear hmk1 hmk2
  go_loopw [5, 16] (fun pv i wr => ∃ (j : Nat) (ls : List Bool), i = .int .i64 j ∧ j ≤ l.length ∧ RowV Value.bool 4 wr W.heap.size W.heap.size l.length ls ∧ ls.length = l.length ∧ ls = marks (l.take j) ++ List.replicate (l.length - j) false ∧
      OwnL 49 wr (W.heap.size + 1) pv (some' (l.take j)) ∧ Below W.heap.size W wr) (fun _ i _ => l.length - (intOf i).toNat)
  case atStart => exact ⟨0, _, rfl, Nat.zero_le _, hrow, List.length_replicate, rfl, hown, hb1⟩
  case round =>
    clear hrow hown hb1 hs0
    obtain ⟨j, ls, rfl, hj, hrw, hlen, hls, hown, hbel⟩ := hrel
    have HL := Lib.hid hlen; have HLS := Lib.hid hls; clear hlen hls
    by_cases hlt : j < l.length
    · have hlj : l[j]? = some l[j] := List.getElem?_eq_getElem hlt
      obtain ⟨ad, rfl, _, q0, q1, q2⟩ := (HR.out.below hbel).at hlj
      have HJ := Lib.hid hlj; clear hlj
      generalize l[j] = X at q0 q1 q2 HJ
      obtain ⟨xb, xn, xs⟩ := X
      simp only at q0 q1 q2
      have hold := fill_at HLS.out (marks_take_len hj) hlt
      have hcell := (hrw.alloc (.cells #[.bool xb, .int .i64 xn, .string xs] 49)).cell j _ hold
      have hfro := (hrw.alloc (.cells #[.bool xb, .int .i64 xn, .string xs] 49)).frozen j
      have hgw := hrw.lt.2
      have HSN := Lib.hid (fill_snoc (x := xb) HLS.out (marks_take_len hj) hlt)
      have HMS := Lib.hid (marks_snoc HJ.out)
      have HSS := Lib.hid (some_snoc HJ.out)
      have HRS := Lib.hid ((hrw.store j xb).alloc (.cells #[.bool xb, .int .i64 xn, .string xs] 49))
      have HOS := Lib.hid ((hown.setO (b := W.heap.size) (i := j) (Nat.lt_succ_self _) (.bool xb)).alloc (.cells #[.bool xb, .int .i64 xn, .string xs] 49))
      have HBS := Lib.hid ((hbel.setCell (p := ⟨W.heap.size, j, none⟩) (Nat.le_refl _) (.bool xb)).alloc (by rw [World.size_setCell]; exact hbel.size) (.cells #[.bool xb, .int .i64 xn, .string xs] 49))
      have hsm := some_len (l.take j)
      have hlt2 : (l.take j).length ≤ 4096 := by rw [List.length_take]; omega
      generalize some' (l.take j) = m at *
      clear hrw hown hold
      cases xb
      · have HA := Lib.hid (show (((wr.setCell ⟨W.heap.size, j, none⟩ (.bool false)).alloc (.cells #[.bool false, .int .i64 xn, .string xs] 49)).heap.size = wr.heap.size + 1) by simp)
        have HX := Lib.hid (RdL.lit ((wr.setCell ⟨W.heap.size, j, none⟩ (.bool false)).alloc (.cells #[.bool false, .int .i64 xn, .string xs] 49)) [⟨false, xn, xs⟩] 1 49 (Nat.le_refl 1) (by decide))
        have HX2 : Hid (RdL (((wr.setCell ⟨W.heap.size, j, none⟩ (.bool false)).alloc (.cells #[.bool false, .int .i64 xn, .string xs] 49)).alloc (.cells #[.bool false, .int .i64 xn, .string xs] 49)) (wr.heap.size + 1 + 1) (.slice (some ⟨wr.heap.size + 1, 0, none⟩) 1 1) [⟨false, xn, xs⟩]) := by
          have h := HX.out
          rw [HA.out] at h
          exact Lib.hid h
        have HO := Lib.hid (HOS.out.alloc (.cells #[.bool false, .int .i64 xn, .string xs] 49))
        have HRA := Lib.hid (HRS.out.alloc (.cells #[.bool false, .int .i64 xn, .string xs] 49))
        have HBA := Lib.hid (HBS.out.alloc HBS.out.size (.cells #[.bool false, .int .i64 xn, .string xs] 49))
        have HL1 := Lib.hid (show m.length + [(⟨false, xn, xs⟩ : Vl)].length ≤ 1000000 by simp only [List.length_cons, List.length_nil]; omega)
        have HL3 := Lib.hid (show W.heap.size + 1 ≤ (((wr.setCell ⟨W.heap.size, j, none⟩ (.bool false)).alloc (.cells #[.bool false, .int .i64 xn, .string xs] 49)).alloc (.cells #[.bool false, .int .i64 xn, .string xs] 49)).heap.size by simp; omega)
        clear HX HA HOS HRS HBS
        go_wp2_with (at_builtin; refine wpl_appL rfl _ _ 63 rfl (W.heap.size + 1) 49 Tryz.underlying63 Tryz.infVal _ m rfl HO.out _ _ [⟨false, xn, xs⟩] rfl HX2.out HL1.out HL3.out ?_)
        intro v' w' hown' hb' _
        go_wp2_with fail
        go_roundw
        case rel => exact ⟨j + 1, _, by go_num, hlt, HRA.out.belowB hb' (Nat.lt_succ_self _), by rw [List.length_set]; exact HL.out, by rw [HSN.out, HMS.out], by rw [HSS.out]; exact hown', HBA.out.trans (hb'.mono (Nat.le_succ _))⟩
        case measure => simp [intOf] <;> omega
      · go_wp2_with fail
        go_roundw
        case rel => exact ⟨j + 1, _, by go_num, hlt, HRS.out, by rw [List.length_set]; exact HL.out, by rw [HSN.out, HMS.out], by rw [HSS.out]; exact HOS.out, HBS.out⟩
        case measure => simp [intOf] <;> omega
    · have HF := Lib.hid (show ls = marks l by rw [HLS.out, show l.take j = l from List.take_of_length_le (by omega), show l.length - j = 0 by omega, List.replicate_zero, List.append_nil])
      have HT := Lib.hid (show l.take j = l from List.take_of_length_le (by omega))
      have H1 := Lib.hid (show RdV Value.bool wr wr.heap.size (.slice (some ⟨W.heap.size, 0, none⟩) l.length l.length) (marks l) from (hrw.own_at HL.out HF.out).read)
      have h2 := hown.read
      rw [HT.out] at h2
      have H2 := Lib.hid h2
      clear h2
      clear hrw hown
      go_wp2
      go_ret2
      exact RetSp.mk rfl H1.out H2.out hbel
set_option maxRecDepth 100000 in
set_option maxHeartbeats 1000000 in
theorem putNulls_any (v : Value) (b : List Bool) (W : World) (hr : RdV Value.bool W W.heap.size v b) (hl : b.length ≤ 4096) :
    Calls Tryz.prog 121 #[v] W (RetB (.string (str (nulB b))) W) := by
  have HP := Lib.hid (npack_any v b W.heap.size W hr (Nat.le_refl _) (by omega))
  have hsz := bmp_size b
  have HC := fun w => Lib.hid (ncount_any (bmp b) w (by omega))
  rw [hsz, ones_bmp] at HC
  have hcl := List.count_le_length (a := true) (l := b)
  have HV1 := fun w => Lib.hid (vput_any b.length w (by omega))
  have HV2 := fun w => Lib.hid (vput_any (b.count true) w (by omega))
  have l1 := putL_len10 (n := b.length) (by omega)
  have l2 := putL_len10 (n := b.count true) (by omega)
  have ha1 := fun w => run_add_2 (P := Tryz.prog) (putL b.length) (putL (b.count true)) (by omega) w
  have ha2 := fun w => run_add_2 (P := Tryz.prog) (putL b.length ++ putL (b.count true)) (bmp b).data.toList (by rw [List.length_append, size_list]; omega) w
  rw [str_of] at ha2
  obtain ⟨A, c, _, rfl, rfl, hc1, hc2⟩ := hr.bds
  clear hr hsz
  unfold nulB
  generalize hB : bmp b = B at *
  generalize hk : b.count true = k at *
  clear hB hk
  have w1 : wrap64 (b.length : Int) = (b.length : Int) := by unfold wrap64; omega
  have w2 : wrap64 (k : Int) = (k : Int) := by unfold wrap64; omega
  by_cases h0 : k = 0
  · rw [if_pos h0, List.append_nil]
    have hd : ((k : Int) == 0) = true := ieq_t (by omega)
    clear ha2 h0
    go_enter Tryz.func121, Tryz.ntmps121
    go_wp2_with fail
    refine HP.out.mono ?_; rintro e w1 ⟨rfl, hb1⟩
    go_wp2_with fail
    refine (HC _).out.mono ?_; rintro e w2 ⟨rfl, rfl⟩
    go_wp2_with fail
    refine (HV1 _).out.mono ?_; rintro e w3 ⟨rfl, hb3⟩
    go_wp2_with fail
    refine (HV2 _).out.mono ?_; rintro e w4 ⟨rfl, hb4⟩
    have hB := bel_trans (bel_trans hb1 hb3) hb4
    clear hb1 hb3 hb4
    go_wp2
    go_ret
    exact RetB.mk rfl hB
  · rw [if_neg h0]
    have hd : ((k : Int) == 0) = false := ieq_f (by omega)
    clear h0
    go_enter Tryz.func121, Tryz.ntmps121
    go_wp2_with fail
    refine HP.out.mono ?_; rintro e w1 ⟨rfl, hb1⟩
    go_wp2_with fail
    refine (HC _).out.mono ?_; rintro e w2 ⟨rfl, rfl⟩
    go_wp2_with fail
    refine (HV1 _).out.mono ?_; rintro e w3 ⟨rfl, hb3⟩
    go_wp2_with fail
    refine (HV2 _).out.mono ?_; rintro e w4 ⟨rfl, hb4⟩
    have hB := bel_trans (bel_trans hb1 hb3) hb4
    clear hb1 hb3 hb4
    go_wp2
    go_ret
    exact RetB.mk (by rw [List.append_assoc]; rfl) hB
end Go.Proofs.YtnmlajmaffiigaaGreatDoor

namespace Go.VB
open Go.RowKit
theorem grown_cell {w w' : World} {row : Option Nat} {b i : Nat} {x : Value} (hg : w.grownBy w' row) (hlt : b < w.heap.size) (hne : row ≠ some b) (h : w.cell? ⟨b, i, none⟩ = some x) : w'.cell? ⟨b, i, none⟩ = some x := by
  rw [World.cell?_of_block (hg.block b hlt (Ne.symm hne))]; exact h
theorem OwnB.ne {e : TypeId} {w : World} {base b : Nat} {v : Value} {bs : List UInt8} (h : OwnB e w base v bs) (hb : w.heap.size ≤ b) : v.ownBlock ≠ some b := fun e => by
  have := (World.ownsRow.lt h b e).2
  omega
end Go.VB
namespace Go.Proofs.YtnmlajmaffiigaaGreatDoor
open Go.RowKit Go.VB Go.VarM Go.BP Go.RL Go.VS Go.VL Go.DI Go.CK Go.NU
theorem vok_take {l : List Vl} (h : ∀ x ∈ l, Vok x) (j : Nat) : ∀ x ∈ l.take j, Vok x := fun x hx => h x (List.mem_of_mem_take hx)
set_option maxRecDepth 100000 in
set_option maxHeartbeats 1000000 in
theorem putPlain_any (typ : Int) (v : Value) (l : List Vl) (W : World) (hr : RdL W W.heap.size v l) (hl : l.length ≤ 4096) (hv : ∀ x ∈ l, Vok x) :
    Calls Tryz.prog 201 #[.int .i64 typ, v] W (RetB (.string (str (plainB typ l))) W) := by
  obtain ⟨A, c, _, rfl, rfl, hc1, hc2⟩ := hr.bds
  have HR := Lib.hid hr; have HV := Lib.hid hv; clear hr hv
  have H3 := Lib.hid (Classical.em (typ = 3))
  go_enter Tryz.func201, Tryz.ntmps201
  go_wp2
  go_loopw [5, 11] (fun pv i wr => ∃ (j : Nat), i = .int .i64 j ∧ j ≤ l.length ∧ OwnB 5 wr W.heap.size pv (plainB typ (l.take j)) ∧ Below W.heap.size W wr) (fun _ i _ => l.length - (intOf i).toNat)
  case atStart => exact ⟨0, rfl, Nat.zero_le _, OwnB.empty _ _ _ _ (Nat.le_refl _) _ rfl (by decide), (Below.refl _ _).alloc (Nat.le_refl _) _⟩
  case round =>
    obtain ⟨j, rfl, hj, hown, hbel⟩ := hrel
    by_cases hlt : j < l.length
    · have hlj : l[j]? = some l[j] := List.getElem?_eq_getElem hlt
      obtain ⟨ad, rfl, _, q0, q1, q2⟩ := (HR.out.below hbel).at hlj
      have HJ := Lib.hid hlj; clear hlj
      have hvx := HV.out l[j] (List.getElem_mem hlt)
      have hlen := plain_le (typ := typ) (vok_take HV.out j)
      have hlt2 : (l.take j).length ≤ 4096 := by rw [List.length_take]; omega
      generalize l[j] = X at q0 q1 q2 HJ hvx
      obtain ⟨xb, xn, xs⟩ := X
      obtain ⟨hx1, hx2⟩ := hvx
      simp only at q0 q1 q2 hx1 hx2
      have HP := Lib.hid (plain_snoc (typ := typ) HJ.out)
      generalize hbs : plainB typ (l.take j) = bs at hown hlen HP
      clear hbs
      have hbs : bs.length ≤ 303104 := by omega
      clear hlen hlt2
      have hszw := hbel.size
      have hoa := hown.alloc (.cells #[.bool xb, .int .i64 xn, .string xs] 49)
      have hba := hbel.alloc hszw (.cells #[.bool xb, .int .i64 xn, .string xs] 49)
      have hsa : (wr.alloc (.cells #[.bool xb, .int .i64 xn, .string xs] 49)).heap.size = wr.heap.size + 1 := by simp
      have hca : (wr.alloc (.cells #[.bool xb, .int .i64 xn, .string xs] 49)).cell? ⟨wr.heap.size, 2, none⟩ = some (.string xs) := by simp
      have hne := OwnB.ne hown (Nat.le_refl _)
      rcases H3.out with h3 | h3
      · have hq : xs.size < 18446744073709551616 := by omega
        have w1 : IntKind.u64.wrap (xs.size : Int) = (xs.size : Int) := by rw [IntKind.wrap_u64]; omega
        have hP := fun w => Lib.hid (vput_any xs.size w hq)
        have hPl := putL_len10 hq
        have HO := Lib.hid (show one typ ⟨xb, xn, xs⟩ = putL xs.size ++ xs.data.toList by unfold one; rw [if_pos h3])
        have e3 := ieq_t h3
        clear h3
        have HOA := Lib.hid hoa; have HBA := Lib.hid hba; have HSA := Lib.hid hsa; have HCA := Lib.hid hca; have HNE := Lib.hid hne
        clear hoa hba hsa hca hne hown hbel
        go_wp2_with fail
        (with_reducible refine (hP _).out.mono ?_); rintro e w3 ⟨rfl, hb3⟩
        have hown3 := HOA.out.below hb3
        have hb3s := hb3.size
        rw [HSA.out] at hb3s
        have hbel3 := bel_trans HBA.out hb3
        have hc3 := (hb3.cell (p := ⟨wr.heap.size, 2, none⟩) (by rw [HSA.out]; exact Nat.lt_succ_self _)).trans HCA.out
        clear hP hb3 HOA HBA HCA
        have H5 := Lib.hid (show bs.length + (str (putL xs.size)).size ≤ 225179981368000 by rw [str_size]; omega)
        go_wp2_with (at_builtin; refine wpl_appS rfl _ _ 41 9 rfl W.heap.size 5 Tryz.underlying41 Tryz.underlying9 Tryz.infoU8 _ bs rfl hown3 _ rfl H5.out hbel3.size ?_)
        intro v4 w4 hown4 hb4 hg4
        have hc4 := grown_cell hg4 (by omega) HNE.out hc3
        have hbel4 := hbel3.trans hb4
        have H6 := Lib.hid (show (bs ++ (str (putL xs.size)).data.toList).length + xs.size ≤ 225179981368000 by rw [List.length_append, size_list, str_size]; omega)
        clear hown3 hbel3 hc3 hb4 hg4
        go_wp2_with (at_builtin; refine wpl_appS rfl _ _ 41 9 rfl W.heap.size 5 Tryz.underlying41 Tryz.underlying9 Tryz.infoU8 _ (bs ++ (str (putL xs.size)).data.toList) rfl hown4 _ rfl H6.out hbel4.size ?_)
        intro v5 w5 hown5 hb5 hg5
        have hbel5 := hbel4.trans hb5
        clear hown4 hbel4 hc4 hb5 hg5
        go_wp2_with fail
        go_roundw
        case rel => exact ⟨j + 1, by go_num, hlt, by rw [HP.out, HO.out]; simp only [str_toList] at hown5 ⊢; exact hown5, hbel5⟩
        case measure => simp [intOf] <;> omega
      · have e3 := ieq_f h3
        obtain ⟨z, hz1, hz2, hz3⟩ := zig_nat hx2
        have HZ := fun w => Lib.hid (vzig_any xn w hx2.1 hx2.2)
        rw [hz1] at HZ
        have hP := fun w => Lib.hid (vput_any z w hz3)
        have hPl := putL_len10 hz3
        have HO := Lib.hid (show one typ ⟨xb, xn, xs⟩ = putL z by unfold one; rw [if_neg h3]; show putL (zigN xn).toNat = _; rw [hz2])
        clear hz1 hz2 h3
        have HOA := Lib.hid hoa; have HBA := Lib.hid hba; have HSA := Lib.hid hsa; have HNE := Lib.hid hne
        clear hoa hba hsa hca hne hown hbel
        go_wp2_with fail
        (with_reducible refine (HZ _).out.mono ?_); rintro e w2 ⟨rfl, rfl⟩
        go_wp2_with fail
        (with_reducible refine (hP _).out.mono ?_); rintro e w3 ⟨rfl, hb3⟩
        have hown3 := HOA.out.below hb3
        have hbel3 := bel_trans HBA.out hb3
        clear hP hb3 HOA HBA
        have H5 := Lib.hid (show bs.length + (str (putL z)).size ≤ 225179981368000 by rw [str_size]; omega)
        go_wp2_with (at_builtin; refine wpl_appS rfl _ _ 41 9 rfl W.heap.size 5 Tryz.underlying41 Tryz.underlying9 Tryz.infoU8 _ bs rfl hown3 _ rfl H5.out hbel3.size ?_)
        intro v4 w4 hown4 hb4 hg4
        have hbel4 := hbel3.trans hb4
        clear hown3 hbel3 hb4 hg4
        go_wp2_with fail
        go_roundw
        case rel => exact ⟨j + 1, by go_num, hlt, by rw [HP.out, HO.out]; exact hown4, hbel4⟩
        case measure => simp [intOf] <;> omega
    · have HT := Lib.hid (show l.take j = l from List.take_of_length_le (by omega))
      rw [HT.out] at hown
      have hcv := run_string_of_own (P := Tryz.prog) 41 9 5 Tryz.underlying41 Tryz.underlying5 Tryz.underlying9 hown
      clear hown
      generalize str (plainB typ l) = S at *
      go_wp2
      go_ret
      exact RetB.mk rfl hbel
section
variable (typ : Int) (v : Value) (l : List Vl) (W : World) (hr : RdL W W.heap.size v l) (hl : l.length ≤ 4096) (hv : ∀ x ∈ l, Vok x)
include hr hl hv
set_option maxRecDepth 100000 in
set_option maxHeartbeats 1000000 in
theorem putPay_1 : Calls Tryz.prog 156 #[.int .i64 typ, .int .i64 1, v] W (RetB (.string (str (payB typ 1 l))) W) := by
  rw [payB_1]
  have HP := Lib.hid (putPlain_any typ v l W hr hl hv)
  clear hr hv
  generalize str (plainB typ l) = S at *
  go_enter Tryz.func156, Tryz.ntmps156
  go_wp2_with fail
  (with_reducible refine HP.out.mono ?_); rintro e w1 ⟨rfl, hb⟩
  go_wp2
  go_ret
  exact RetB.mk rfl hb
set_option maxRecDepth 100000 in
set_option maxHeartbeats 1000000 in
theorem putPay_2 : Calls Tryz.prog 156 #[.int .i64 typ, .int .i64 2, v] W (RetB (.string (str (payB typ 2 l))) W) := by
  rw [payB_2]
  have HN := Lib.hid (numsOf_any v l W hr (by omega))
  have HI := Lib.hid (nums_ok hv)
  have hlen : (nums l).length ≤ 4096 := by rw [show (nums l).length = l.length from List.length_map _]; exact hl
  have HE := Lib.hid (fun (v : Value) (w : World) (h : RdV (Value.int .i64) w w.heap.size v (nums l)) => encode_any v (nums l) w.heap.size w h (Nat.le_refl _) HI.out (by omega))
  change Hid (Calls _ _ _ W (RetV (Value.int .i64) 2 (nums l) W)) at HN
  clear hr hv
  generalize nums l = zl at *
  generalize str (encR zl) = S at *
  go_enter Tryz.func156, Tryz.ntmps156
  go_wp2_with fail
  (with_reducible refine HN.out.mono ?_); rintro e w1 ⟨v1, rfl, hown, hb1⟩
  go_wp2_with fail
  (with_reducible refine (HE.out v1 w1 hown.read).mono ?_); rintro e w2 ⟨rfl, hb2⟩
  have hB := bel_trans hb1 hb2
  go_wp2
  go_ret
  exact RetB.mk rfl hB
set_option maxRecDepth 100000 in
set_option maxHeartbeats 1000000 in
theorem putPay_3 : Calls Tryz.prog 156 #[.int .i64 typ, .int .i64 3, v] W (RetB (.string (str (payB typ 3 l))) W) := by
  rw [payB_3]
  have HN := Lib.hid (txtsOf_any v l W hr (by omega))
  have hI := txts_ok hv
  have hlen : (txts l).length ≤ 4096 := by rw [show (txts l).length = l.length from List.length_map _]; exact hl
  have hel := encD_le hlen hI
  have HE := Lib.hid (fun (v : Value) (w : World) (h : RdV Value.string w w.heap.size v (txts l)) => dictenc_any v (txts l) w.heap.size w h (Nat.le_refl _) (by omega) (fun x hx => Nat.le_trans (hI x hx) (by decide)) (by omega))
  change Hid (Calls _ _ _ W (RetV Value.string 9 (txts l) W)) at HN
  clear hr hv hI hel
  generalize txts l = zl at *
  generalize str (encD zl) = S at *
  go_enter Tryz.func156, Tryz.ntmps156
  go_wp2_with fail
  (with_reducible refine HN.out.mono ?_); rintro e w1 ⟨v1, rfl, hown, hb1⟩
  go_wp2_with fail
  (with_reducible refine (HE.out v1 w1 hown.read).mono ?_); rintro e w2 ⟨rfl, hb2⟩
  have hB := bel_trans hb1 hb2
  go_wp2
  go_ret
  exact RetB.mk rfl hB
set_option maxRecDepth 100000 in
set_option maxHeartbeats 1000000 in
theorem putPay_4 : Calls Tryz.prog 156 #[.int .i64 typ, .int .i64 4, v] W (RetB (.string (str (payB typ 4 l))) W) := by
  rw [payB_4]
  have HN := Lib.hid (numsOf_any v l W hr (by omega))
  have HI := Lib.hid (nums_ok hv)
  have HE := Lib.hid (fun (v : Value) (w : World) (h : RdV (Value.int .i64) w w.heap.size v (nums l)) => dencode_any v (nums l) w.heap.size w h (Nat.le_refl _) HI.out)
  change Hid (Calls _ _ _ W (RetV (Value.int .i64) 2 (nums l) W)) at HN
  clear hr hv
  generalize nums l = zl at *
  generalize str (Go.DL.encX zl) = S at *
  go_enter Tryz.func156, Tryz.ntmps156
  go_wp2_with fail
  (with_reducible refine HN.out.mono ?_); rintro e w1 ⟨v1, rfl, hown, hb1⟩
  go_wp2_with fail
  (with_reducible refine (HE.out v1 w1 hown.read).mono ?_); rintro e w2 ⟨rfl, hb2⟩
  have hB := bel_trans hb1 hb2
  go_wp2
  go_ret
  exact RetB.mk rfl hB
end
end Go.Proofs.YtnmlajmaffiigaaGreatDoor

namespace Go.CK
open Go.RowKit Go.VB Go.VS
/-- It returns v and leaves the world W. -/
def RetAt (v : Value) (W : World) : Ending → World → Prop := fun e w' => e = .returned v ∧ w' = W
theorem RetAt.mk {x v : Value} {W w : World} (h : x = v) (hw : w = W) : RetAt v W (.returned x) w := ⟨by rw [h], hw⟩
end Go.CK
namespace Go.Proofs.YtnmlajmaffiigaaGreatDoor
open Go.RowKit Go.VB Go.VarM Go.BP Go.RL Go.VS Go.VL Go.DI Go.CK Go.NU
set_option maxRecDepth 100000 in
set_option maxHeartbeats 400000 in
theorem codecs3_at (w : World) : Calls Tryz.prog 155 #[.int .i64 3] w (RetAt (.slice (some ⟨w.heap.size, 0, none⟩) 2 2) (w.alloc (.cells #[.int .i64 1,.int .i64 3] 3))) := by
  go_enter Tryz.func155, Tryz.ntmps155
  go_wp2
  go_ret
  exact RetAt.mk rfl rfl
set_option maxRecDepth 100000 in
set_option maxHeartbeats 400000 in
theorem codecs1_at (w : World) : Calls Tryz.prog 155 #[.int .i64 1] w (RetAt (.slice (some ⟨w.heap.size, 0, none⟩) 3 3) (w.alloc (.cells #[.int .i64 1,.int .i64 2,.int .i64 4] 3))) := by
  go_enter Tryz.func155, Tryz.ntmps155
  go_wp2
  go_ret
  exact RetAt.mk rfl rfl
set_option maxRecDepth 100000 in
set_option maxHeartbeats 400000 in
theorem codecs2_at (w : World) : Calls Tryz.prog 155 #[.int .i64 2] w (RetAt (.slice (some ⟨w.heap.size, 0, none⟩) 3 3) (w.alloc (.cells #[.int .i64 1,.int .i64 2,.int .i64 4] 3))) := by
  go_enter Tryz.func155, Tryz.ntmps155
  go_wp2
  go_ret
  exact RetAt.mk rfl rfl
set_option maxRecDepth 100000 in
set_option maxHeartbeats 400000 in
theorem codecs4_at (w : World) : Calls Tryz.prog 155 #[.int .i64 4] w (RetAt (.slice (some ⟨w.heap.size, 0, none⟩) 3 3) (w.alloc (.cells #[.int .i64 1,.int .i64 2,.int .i64 4] 3))) := by
  go_enter Tryz.func155, Tryz.ntmps155
  go_wp2
  go_ret
  exact RetAt.mk rfl rfl
set_option maxRecDepth 100000 in
set_option maxHeartbeats 400000 in
theorem codecs5_at (w : World) : Calls Tryz.prog 155 #[.int .i64 5] w (RetAt (.slice (some ⟨w.heap.size, 0, none⟩) 3 3) (w.alloc (.cells #[.int .i64 1,.int .i64 2,.int .i64 4] 3))) := by
  go_enter Tryz.func155, Tryz.ntmps155
  go_wp2
  go_ret
  exact RetAt.mk rfl rfl
theorem codecsN_at {typ : Int} (hT : okT typ = true) (h3 : typ ≠ 3) (w : World) : Calls Tryz.prog 155 #[.int .i64 typ] w (RetAt (.slice (some ⟨w.heap.size, 0, none⟩) 3 3) (w.alloc (.cells #[.int .i64 1, .int .i64 2, .int .i64 4] 3))) := by
  rcases Go.CK.okT_five hT with rfl | rfl | rfl | rfl | rfl
  · exact codecs1_at w
  · exact codecs2_at w
  · exact absurd rfl h3
  · exact codecs4_at w
  · exact codecs5_at w
set_option maxRecDepth 100000 in
set_option maxHeartbeats 1000000 in
theorem short_3 (v : Value) (l : List Vl) (W : World) (hr : RdL W W.heap.size v l) (hl : l.length ≤ 4096) (hv : ∀ x ∈ l, Vok x) :
    Calls Tryz.prog 120 #[.int .i64 3, v] W (RetB (.tuple #[.int .i64 (bestK 3 l : Nat), .string (str (payB 3 (bestK 3 l : Nat) l))]) W) := by
  obtain ⟨A, c, _, rfl, rfl, hc1, hc2⟩ := hr.bds
  have HB1 := Lib.hid ((Below.refl W.heap.size W).alloc (Nat.le_refl _) (.cells #[.int .i64 1, .int .i64 3] 3))
  have HS1 := Lib.hid (show (W.alloc (.cells #[.int .i64 1, .int .i64 3] 3)).heap.size = W.heap.size + 1 from by simp)
  have HR1 := Lib.hid (hr.step HB1.out)
  have HC := Lib.hid (codecs3_at W)
  have HCELL := Lib.hid (show ∀ w', Below (W.alloc (.cells #[.int .i64 1, .int .i64 3] 3)).heap.size (W.alloc (.cells #[.int .i64 1, .int .i64 3] 3)) w' → w'.cell? ⟨W.heap.size, 0, none⟩ = some (.int .i64 1) ∧ w'.cell? ⟨W.heap.size, 1, none⟩ = some (.int .i64 3) from fun w' hb => ⟨(hb.cell (p := ⟨W.heap.size, 0, none⟩) (by rw [HS1.out]; exact Nat.lt_succ_self _)).trans (by simp), (hb.cell (p := ⟨W.heap.size, 1, none⟩) (by rw [HS1.out]; exact Nat.lt_succ_self _)).trans (by simp)⟩)
  obtain ⟨PP, hPP⟩ : ∃ PP : Nat → ByteArray, ∀ b : Nat, PP b = str (payB 3 (b : Int) l) := ⟨_, fun _ => rfl⟩
  have HZ := Lib.hid (fun b : Nat => (congrArg ByteArray.size (hPP b)).trans (str_size _))
  have HPP := Lib.hid hPP
  have HP1 := Lib.hid (fun (w : World) (h : RdL w w.heap.size (.slice A l.length c) l) => putPay_1 3 (.slice A l.length c) l w h hl hv)
  rw [show payB 3 1 l = payB 3 ((1 : Nat) : Int) l from rfl, ← hPP 1] at HP1
  have HP3 := Lib.hid (fun (w : World) (h : RdL w w.heap.size (.slice A l.length c) l) => putPay_3 3 (.slice A l.length c) l w h hl hv)
  rw [show payB 3 3 l = payB 3 ((3 : Nat) : Int) l from rfl, ← hPP 3] at HP3
  have HF := Lib.hid (show (bstep 3 l 1 3) = bestK 3 l from best_3 l)
  rw [← hPP]
  clear hr hv hPP
  go_enter Tryz.func120, Tryz.ntmps120
  go_wp2_with fail
  (with_reducible refine HC.out.mono ?_); rintro e w1 ⟨rfl, rfl⟩
  go_upto_region 2 with fail
  go_cut [7, 8] from 14 to 22 (fun b s w' => b = .int .i64 1 ∧ s = .string (PP 1) ∧ Below (W.alloc (.cells #[.int .i64 1, .int .i64 3] 3)).heap.size (W.alloc (.cells #[.int .i64 1, .int .i64 3] 3)) w')
  case first =>
    obtain ⟨c1, c3⟩ := HCELL.out (W.alloc (.cells #[.int .i64 1, .int .i64 3] 3)) (Below.refl _ _)
    have HPW := Lib.hid (show ∀ w', Below (W.alloc (.cells #[.int .i64 1, .int .i64 3] 3)).heap.size (W.alloc (.cells #[.int .i64 1, .int .i64 3] 3)) w' → Hid (Calls Tryz.prog 156 #[.int .i64 3, .int .i64 1, .slice A l.length c] w' (RetB (.string (PP 1)) w')) from fun w' hb => Lib.hid (HP1.out w' (HR1.out.step hb)))
    go_region_with (first | (go_at_call 156; (with_reducible refine (HPW.out _ ?_).out.mono ?_); (first | exact (Below.refl _ _) | exact (Below.refl _ _).drew | go_grown); rintro e w' ⟨rfl, hb⟩; obtain ⟨d1, d3⟩ := HCELL.out _ (bel_trans (by go_grown) hb)))
    all_goals
      go_wp2_with fail
      go_meet
      case rel => exact ⟨rfl, rfl, bel_trans (by go_grown) hb⟩
  case rest =>
    obtain ⟨rfl, rfl, hbw⟩ := hcut
    obtain ⟨c1, c3⟩ := HCELL.out _ hbw
    go_wp2_with fail
    clear c1 c3
    go_loopw [7, 8, 26] (fun bv sv i wr => ∃ (j b : Nat), i = .int .i64 j ∧ bv = .int .i64 b ∧ sv = .string (PP b) ∧ (j = 0 ∧ b = 1 ∨ j = 1 ∧ b = (bstep 3 l 1 3)) ∧ Below (W.alloc (.cells #[.int .i64 1, .int .i64 3] 3)).heap.size (W.alloc (.cells #[.int .i64 1, .int .i64 3] 3)) wr) (fun _ _ i _ => 1 - (intOf i).toNat)
    case atStart => exact ⟨0, 1, rfl, rfl, rfl, .inl ⟨rfl, rfl⟩, hbw⟩
    case round =>
      clear hbw
      obtain ⟨j, b, rfl, rfl, rfl, hjb, hbel⟩ := hrel
      rcases hjb with ⟨rfl, hb⟩ | ⟨rfl, hb⟩
      · obtain ⟨c1, c3⟩ := HCELL.out _ hbel
        have hr2 := HR1.out.step hbel
        have HBB := Lib.hid hb
        clear hb
        go_wp2_with fail
        (with_reducible refine (HP3.out _ hr2).mono ?_); rintro e w5 ⟨rfl, hb5⟩
        have hbel5 := bel_trans hbel hb5
        clear hr2 hbel hb5 c1 c3
        by_cases hlt : (PP 3).size < (PP b).size
        · have HS2 := Lib.hid (show bstep 3 l b 3 = 3 from if_pos (by have h := hlt; rw [HZ.out, HZ.out] at h; exact h))
          have hd1 : decide ((PP 3).size < (PP b).size) = true := decide_eq_true hlt
          have hd2 : decide (((PP 3).size : Int) < ((PP b).size : Int)) = true := decide_eq_true (by omega)
          clear hlt
          go_wp2_with fail
          go_roundw
          case rel => exact ⟨1, 3, by first | rfl | go_num, rfl, rfl, .inr (⟨rfl, HS2.out.symm.trans (by rw [HBB.out])⟩), hbel5⟩
          case measure => simp [intOf] <;> omega
        · have HS2 := Lib.hid (show bstep 3 l b 3 = b from if_neg (by have h := hlt; rw [HZ.out, HZ.out] at h; exact h))
          have hd1 : decide ((PP 3).size < (PP b).size) = false := decide_eq_false hlt
          have hd2 : decide (((PP 3).size : Int) < ((PP b).size : Int)) = false := decide_eq_false (by omega)
          clear hlt
          go_wp2_with fail
          go_roundw
          case rel => exact ⟨1, b, by first | rfl | go_num, rfl, rfl, .inr (⟨rfl, HS2.out.symm.trans (by rw [HBB.out])⟩), hbel5⟩
          case measure => simp [intOf] <;> omega
      · have HEH := Lib.hid (hb.trans HF.out)
        clear hb
        go_wp2
        go_ret2
        exact RetB.mk (by rw [← HEH.out]; rfl) (HB1.out.trans (hbel.mono (by rw [HS1.out]; exact Nat.le_succ _)))
set_option maxRecDepth 100000 in
set_option maxHeartbeats 1000000 in
theorem short_n (typ : Int) (v : Value) (l : List Vl) (W : World) (hr : RdL W W.heap.size v l) (hl : l.length ≤ 4096) (hv : ∀ x ∈ l, Vok x) (hT : okT typ = true) (h3 : typ ≠ 3) :
    Calls Tryz.prog 120 #[.int .i64 typ, v] W (RetB (.tuple #[.int .i64 (bestK typ l : Nat), .string (str (payB typ (bestK typ l : Nat) l))]) W) := by
  obtain ⟨A, c, _, rfl, rfl, hc1, hc2⟩ := hr.bds
  have HB1 := Lib.hid ((Below.refl W.heap.size W).alloc (Nat.le_refl _) (.cells #[.int .i64 1, .int .i64 2, .int .i64 4] 3))
  have HS1 := Lib.hid (show (W.alloc (.cells #[.int .i64 1, .int .i64 2, .int .i64 4] 3)).heap.size = W.heap.size + 1 from by simp)
  have HR1 := Lib.hid (hr.step HB1.out)
  have HC := Lib.hid (codecsN_at hT h3 W)
  have HCELL := Lib.hid (show ∀ w', Below (W.alloc (.cells #[.int .i64 1, .int .i64 2, .int .i64 4] 3)).heap.size (W.alloc (.cells #[.int .i64 1, .int .i64 2, .int .i64 4] 3)) w' → w'.cell? ⟨W.heap.size, 0, none⟩ = some (.int .i64 1) ∧ w'.cell? ⟨W.heap.size, 1, none⟩ = some (.int .i64 2) ∧ w'.cell? ⟨W.heap.size, 2, none⟩ = some (.int .i64 4) from fun w' hb => ⟨(hb.cell (p := ⟨W.heap.size, 0, none⟩) (by rw [HS1.out]; exact Nat.lt_succ_self _)).trans (by simp), (hb.cell (p := ⟨W.heap.size, 1, none⟩) (by rw [HS1.out]; exact Nat.lt_succ_self _)).trans (by simp), (hb.cell (p := ⟨W.heap.size, 2, none⟩) (by rw [HS1.out]; exact Nat.lt_succ_self _)).trans (by simp)⟩)
  obtain ⟨PP, hPP⟩ : ∃ PP : Nat → ByteArray, ∀ b : Nat, PP b = str (payB typ (b : Int) l) := ⟨_, fun _ => rfl⟩
  have HZ := Lib.hid (fun b : Nat => (congrArg ByteArray.size (hPP b)).trans (str_size _))
  have HPP := Lib.hid hPP
  have HP1 := Lib.hid (fun (w : World) (h : RdL w w.heap.size (.slice A l.length c) l) => putPay_1 typ (.slice A l.length c) l w h hl hv)
  rw [show payB typ 1 l = payB typ ((1 : Nat) : Int) l from rfl, ← hPP 1] at HP1
  have HP2 := Lib.hid (fun (w : World) (h : RdL w w.heap.size (.slice A l.length c) l) => putPay_2 typ (.slice A l.length c) l w h hl hv)
  rw [show payB typ 2 l = payB typ ((2 : Nat) : Int) l from rfl, ← hPP 2] at HP2
  have HP4 := Lib.hid (fun (w : World) (h : RdL w w.heap.size (.slice A l.length c) l) => putPay_4 typ (.slice A l.length c) l w h hl hv)
  rw [show payB typ 4 l = payB typ ((4 : Nat) : Int) l from rfl, ← hPP 4] at HP4
  have HF := Lib.hid (show (bstep typ l (bstep typ l 1 2) 4) = bestK typ l from best_n h3 l)
  rw [← hPP]
  clear hr hv hPP
  go_enter Tryz.func120, Tryz.ntmps120
  go_wp2_with fail
  (with_reducible refine HC.out.mono ?_); rintro e w1 ⟨rfl, rfl⟩
  go_upto_region 2 with fail
  go_cut [7, 8] from 14 to 22 (fun b s w' => b = .int .i64 1 ∧ s = .string (PP 1) ∧ Below (W.alloc (.cells #[.int .i64 1, .int .i64 2, .int .i64 4] 3)).heap.size (W.alloc (.cells #[.int .i64 1, .int .i64 2, .int .i64 4] 3)) w')
  case first =>
    obtain ⟨c1, c2, c4⟩ := HCELL.out (W.alloc (.cells #[.int .i64 1, .int .i64 2, .int .i64 4] 3)) (Below.refl _ _)
    have HPW := Lib.hid (show ∀ w', Below (W.alloc (.cells #[.int .i64 1, .int .i64 2, .int .i64 4] 3)).heap.size (W.alloc (.cells #[.int .i64 1, .int .i64 2, .int .i64 4] 3)) w' → Hid (Calls Tryz.prog 156 #[.int .i64 typ, .int .i64 1, .slice A l.length c] w' (RetB (.string (PP 1)) w')) from fun w' hb => Lib.hid (HP1.out w' (HR1.out.step hb)))
    go_region_with (first | (go_at_call 156; (with_reducible refine (HPW.out _ ?_).out.mono ?_); (first | exact (Below.refl _ _) | exact (Below.refl _ _).drew | go_grown); rintro e w' ⟨rfl, hb⟩; obtain ⟨d1, d2, d4⟩ := HCELL.out _ (bel_trans (by go_grown) hb)))
    all_goals
      go_wp2_with fail
      go_meet
      case rel => exact ⟨rfl, rfl, bel_trans (by go_grown) hb⟩
  case rest =>
    obtain ⟨rfl, rfl, hbw⟩ := hcut
    obtain ⟨c1, c2, c4⟩ := HCELL.out _ hbw
    go_wp2_with fail
    clear c1 c2 c4
    go_loopw [7, 8, 26] (fun bv sv i wr => ∃ (j b : Nat), i = .int .i64 j ∧ bv = .int .i64 b ∧ sv = .string (PP b) ∧ (j = 0 ∧ b = 1 ∨ j = 1 ∧ b = (bstep typ l 1 2) ∨ j = 2 ∧ b = (bstep typ l (bstep typ l 1 2) 4)) ∧ Below (W.alloc (.cells #[.int .i64 1, .int .i64 2, .int .i64 4] 3)).heap.size (W.alloc (.cells #[.int .i64 1, .int .i64 2, .int .i64 4] 3)) wr) (fun _ _ i _ => 2 - (intOf i).toNat)
    case atStart => exact ⟨0, 1, rfl, rfl, rfl, .inl ⟨rfl, rfl⟩, hbw⟩
    case round =>
      clear hbw
      obtain ⟨j, b, rfl, rfl, rfl, hjb, hbel⟩ := hrel
      rcases hjb with ⟨rfl, hb⟩ | ⟨rfl, hb⟩ | ⟨rfl, hb⟩
      · obtain ⟨c1, c2, c4⟩ := HCELL.out _ hbel
        have hr2 := HR1.out.step hbel
        have HBB := Lib.hid hb
        clear hb
        go_wp2_with fail
        (with_reducible refine (HP2.out _ hr2).mono ?_); rintro e w5 ⟨rfl, hb5⟩
        have hbel5 := bel_trans hbel hb5
        clear hr2 hbel hb5 c1 c2 c4
        by_cases hlt : (PP 2).size < (PP b).size
        · have HS2 := Lib.hid (show bstep typ l b 2 = 2 from if_pos (by have h := hlt; rw [HZ.out, HZ.out] at h; exact h))
          have hd1 : decide ((PP 2).size < (PP b).size) = true := decide_eq_true hlt
          have hd2 : decide (((PP 2).size : Int) < ((PP b).size : Int)) = true := decide_eq_true (by omega)
          clear hlt
          go_wp2_with fail
          go_roundw
          case rel => exact ⟨1, 2, by first | rfl | go_num, rfl, rfl, .inr (.inl ⟨rfl, HS2.out.symm.trans (by rw [HBB.out])⟩), hbel5⟩
          case measure => simp [intOf] <;> omega
        · have HS2 := Lib.hid (show bstep typ l b 2 = b from if_neg (by have h := hlt; rw [HZ.out, HZ.out] at h; exact h))
          have hd1 : decide ((PP 2).size < (PP b).size) = false := decide_eq_false hlt
          have hd2 : decide (((PP 2).size : Int) < ((PP b).size : Int)) = false := decide_eq_false (by omega)
          clear hlt
          go_wp2_with fail
          go_roundw
          case rel => exact ⟨1, b, by first | rfl | go_num, rfl, rfl, .inr (.inl ⟨rfl, HS2.out.symm.trans (by rw [HBB.out])⟩), hbel5⟩
          case measure => simp [intOf] <;> omega
      · obtain ⟨c1, c2, c4⟩ := HCELL.out _ hbel
        have hr2 := HR1.out.step hbel
        have HBB := Lib.hid hb
        clear hb
        go_wp2_with fail
        (with_reducible refine (HP4.out _ hr2).mono ?_); rintro e w5 ⟨rfl, hb5⟩
        have hbel5 := bel_trans hbel hb5
        clear hr2 hbel hb5 c1 c2 c4
        by_cases hlt : (PP 4).size < (PP b).size
        · have HS2 := Lib.hid (show bstep typ l b 4 = 4 from if_pos (by have h := hlt; rw [HZ.out, HZ.out] at h; exact h))
          have hd1 : decide ((PP 4).size < (PP b).size) = true := decide_eq_true hlt
          have hd2 : decide (((PP 4).size : Int) < ((PP b).size : Int)) = true := decide_eq_true (by omega)
          clear hlt
          go_wp2_with fail
          go_roundw
          case rel => exact ⟨2, 4, by first | rfl | go_num, rfl, rfl, .inr (.inr (⟨rfl, HS2.out.symm.trans (by rw [HBB.out])⟩)), hbel5⟩
          case measure => simp [intOf] <;> omega
        · have HS2 := Lib.hid (show bstep typ l b 4 = b from if_neg (by have h := hlt; rw [HZ.out, HZ.out] at h; exact h))
          have hd1 : decide ((PP 4).size < (PP b).size) = false := decide_eq_false hlt
          have hd2 : decide (((PP 4).size : Int) < ((PP b).size : Int)) = false := decide_eq_false (by omega)
          clear hlt
          go_wp2_with fail
          go_roundw
          case rel => exact ⟨2, b, by first | rfl | go_num, rfl, rfl, .inr (.inr (⟨rfl, HS2.out.symm.trans (by rw [HBB.out])⟩)), hbel5⟩
          case measure => simp [intOf] <;> omega
      · have HEH := Lib.hid (hb.trans HF.out)
        clear hb
        go_wp2
        go_ret2
        exact RetB.mk (by rw [← HEH.out]; rfl) (HB1.out.trans (hbel.mono (by rw [HS1.out]; exact Nat.le_succ _)))
theorem short_any (typ : Int) (hT : okT typ = true) (v : Value) (l : List Vl) (W : World) (hr : RdL W W.heap.size v l) (hl : l.length ≤ 4096) (hv : ∀ x ∈ l, Vok x) :
    Calls Tryz.prog 120 #[.int .i64 typ, v] W (RetB (.tuple #[.int .i64 (bestK typ l : Nat), .string (str (payB typ (bestK typ l : Nat) l))]) W) := by
  by_cases h3 : typ = 3
  · subst h3; exact short_3 v l W hr hl hv
  · exact short_n typ v l W hr hl hv hT h3
end Go.Proofs.YtnmlajmaffiigaaGreatDoor

namespace Go.CK
open Go.RowKit Go.VB Go.VS
theorem alloc_lt (w : World) (o : Obj) : w.heap.size < (w.alloc o).heap.size := by simp
theorem u8_of {k : Nat} (h : k ≤ 4) : IntKind.u8.wrap (k : Int) = (k : Int) := by rw [IntKind.wrap_u8]; omega
theorem bestK_le (typ : Int) (l : List Vl) : 1 ≤ bestK typ l ∧ bestK typ l ≤ 4 := by
  unfold bestK
  repeat' split
  all_goals omega
end Go.CK
namespace Go.Proofs.YtnmlajmaffiigaaGreatDoor
open Go.RowKit Go.VB Go.VarM Go.BP Go.RL Go.VS Go.VL Go.DI Go.CK Go.NU
section
variable (nm : ByteArray) (ty sc : Int) (nu : Bool) (v : Value) (l : List Vl) (W : World)
set_option maxRecDepth 100000 in
set_option maxHeartbeats 1000000 in
theorem enc_type (hT : okT ty = false) : Calls Tryz.prog 81 #[(.agg #[.string nm, .int .i64 ty, .int .i64 sc, .bool nu]), v] W (RetB (.tuple #[.string ⟨#[]⟩, .int .i64 1]) W) := by
  have HT := fun w => Lib.hid (cisType_any ty w)
  rw [hT] at HT
  have HB1 := Lib.hid ((Below.refl W.heap.size W).alloc (Nat.le_refl _) (.cells #[.string nm, .int .i64 ty, .int .i64 sc, .bool nu] 62))
  clear hT
  go_enter Tryz.func81, Tryz.ntmps81
  go_wp2_with fail
  (with_reducible refine (HT _).out.mono ?_); rintro e w1 ⟨rfl, hb1⟩
  go_wp2
  go_ret2
  exact RetB.mk rfl (bel_trans HB1.out hb1)
set_option maxRecDepth 100000 in
set_option maxHeartbeats 1000000 in
theorem enc_full (hT : okT ty = true) (hr : RdL W W.heap.size v l) (hl : 4096 < l.length) : Calls Tryz.prog 81 #[(.agg #[.string nm, .int .i64 ty, .int .i64 sc, .bool nu]), v] W (RetB (.tuple #[.string ⟨#[]⟩, .int .i64 7]) W) := by
  obtain ⟨A, c, _, rfl, rfl, hc1, hc2⟩ := hr.bds
  have HT := fun w => Lib.hid (cisType_any ty w)
  rw [hT] at HT
  have HB1 := Lib.hid ((Below.refl W.heap.size W).alloc (Nat.le_refl _) (.cells #[.string nm, .int .i64 ty, .int .i64 sc, .bool nu] 62))
  have hd : decide ((4096 : Int) < (l.length : Int)) = true := decide_eq_true (by omega)
  have hd2 : decide (4096 < l.length) = true := decide_eq_true (by omega)
  clear hT hr
  go_enter Tryz.func81, Tryz.ntmps81
  go_wp2_with fail
  (with_reducible refine (HT _).out.mono ?_); rintro e w1 ⟨rfl, hb1⟩
  go_wp2
  go_ret2
  exact RetB.mk rfl (bel_trans HB1.out hb1)
set_option maxRecDepth 100000 in
set_option maxHeartbeats 1000000 in
theorem enc_bad (hT : okT ty = true) (hr : RdL W W.heap.size v l) (hl : l.length ≤ 4096) (E : Nat) (hE : firstE ty nu l = E) (h0 : E ≠ 0) : Calls Tryz.prog 81 #[(.agg #[.string nm, .int .i64 ty, .int .i64 sc, .bool nu]), v] W (RetB (.tuple #[.string ⟨#[]⟩, .int .i64 (E : Nat)]) W) := by
  have HT := fun w => Lib.hid (cisType_any ty w)
  rw [hT] at HT
  have HB1 := Lib.hid ((Below.refl W.heap.size W).alloc (Nat.le_refl _) (.cells #[.string nm, .int .i64 ty, .int .i64 sc, .bool nu] 62))
  have HS1 := Lib.hid (show (W.alloc (.cells #[.string nm, .int .i64 ty, .int .i64 sc, .bool nu] 62)).heap.size = W.heap.size + 1 from by simp)
  have HV := Lib.hid (Var4.new W (.string nm) (.int .i64 ty) (.int .i64 sc) (.bool nu) 62)
  have HCA := fun w h => Lib.hid (checkAll_any nm ty sc nu v l w h)
  rw [hE] at HCA
  have HR1 := Lib.hid (hr.step HB1.out)
  obtain ⟨A, c, _, rfl, rfl, hc1, hc2⟩ := hr.bds
  have hd : ((E : Int) != 0) = true := ine_t (by omega)
  clear hT hr hE h0
  go_enter Tryz.func81, Tryz.ntmps81
  go_wp2_with fail
  (with_reducible refine (HT _).out.mono ?_); rintro e w1 ⟨rfl, hb1⟩
  obtain ⟨v0, v1, v2, v3⟩ := HV.out.below hb1 (by rw [HS1.out]; exact Nat.lt_succ_self _)
  have hr1 := HR1.out.step hb1
  go_wp2_with fail
  (with_reducible refine (HCA _ hr1).out.mono ?_); rintro e w2 ⟨rfl, hb2⟩
  go_wp2
  go_ret2
  exact RetB.mk rfl (bel_trans (bel_trans HB1.out hb1) hb2)
set_option maxRecDepth 100000 in
set_option maxHeartbeats 1000000 in
theorem enc_good (hT : okT ty = true) (hr : RdL W W.heap.size v l) (hl : l.length ≤ 4096) (hE : firstE ty nu l = 0) (hb : ∀ x ∈ l, -9223372036854775808 ≤ x.n ∧ x.n ≤ 9223372036854775807) :
    Calls Tryz.prog 81 #[(.agg #[.string nm, .int .i64 ty, .int .i64 sc, .bool nu]), v] W (RetB (.tuple #[.string (str (bestB ty l)), .int .i64 0]) W) := by
  have hok := ok_of hT (firstE_zero.1 hE) hb
  have hsok := some_ok hok
  have hsl := some_len l
  have HT := fun w => Lib.hid (cisType_any ty w)
  rw [hT] at HT
  have HB1 := Lib.hid ((Below.refl W.heap.size W).alloc (Nat.le_refl _) (.cells #[.string nm, .int .i64 ty, .int .i64 sc, .bool nu] 62))
  have HS1 := Lib.hid (show (W.alloc (.cells #[.string nm, .int .i64 ty, .int .i64 sc, .bool nu] 62)).heap.size = W.heap.size + 1 from by simp)
  have HV := Lib.hid (Var4.new W (.string nm) (.int .i64 ty) (.int .i64 sc) (.bool nu) 62)
  have HCA := fun w h => Lib.hid (checkAll_any nm ty sc nu v l w h)
  rw [hE] at HCA
  have HSP := fun w h => Lib.hid (split_any v l w h hl)
  have HSH := fun v2 w h => Lib.hid (short_any ty hT v2 (some' l) w h (Nat.le_trans hsl hl) hsok)
  have hbody := body_parts ty (bestK ty (some' l)) l
  have hbl := body_le (typ := ty) (k := bestK ty (some' l)) hl hok
  have HPN := fun v1 w h => Lib.hid (putNulls_any v1 (marks l) w h (by rw [marks_len]; exact hl))
  have hk := bestK_le ty (some' l)
  have hbest := best_is ty l
  have HR1 := Lib.hid (hr.step HB1.out)
  obtain ⟨A, c, _, rfl, rfl, hc1, hc2⟩ := hr.bds
  have hnl := nulB_le (b := marks l) (by rw [marks_len]; exact hl)
  have hpl := pay_le (typ := ty) (codec := ((bestK ty (some' l) : Nat) : Int)) (Nat.le_trans hsl hl) hsok
  generalize payB ty ((bestK ty (some' l) : Nat) : Int) (some' l) = P at *
  generalize bestK ty (some' l) = K at *
  generalize nulB (marks l) = NB at *
  rw [← hbest]
  unfold buildB
  generalize bodyB ty K l = BD at *
  have HCK := fun w => Lib.hid (checksum_any (str BD) w (by rw [str_size]; omega))
  rw [str_toList] at HCK
  have hf4 : (four (crcL BD)).length = 4 := rfl
  have ha1 := fun w => run_add_2 (P := Tryz.prog) [UInt8.ofNat K] NB (by simp only [List.length_cons, List.length_nil]; omega) w
  have ha2 := fun w => run_add_2 (P := Tryz.prog) ([UInt8.ofNat K] ++ NB) P (by simp only [List.length_append, List.length_cons, List.length_nil]; omega) w
  rw [hbody] at ha2
  have ha3 := fun w => run_add_2 (P := Tryz.prog) BD (four (crcL BD)) (by omega) w
  obtain ⟨c1, hc1'⟩ : ∃ c1, str [UInt8.ofNat K] = c1 := ⟨_, rfl⟩
  obtain ⟨n1, hn1⟩ : ∃ n1, str NB = n1 := ⟨_, rfl⟩
  obtain ⟨p1, hp1⟩ : ∃ p1, str P = p1 := ⟨_, rfl⟩
  obtain ⟨c2, hc2'⟩ : ∃ c2, str ([UInt8.ofNat K] ++ NB) = c2 := ⟨_, rfl⟩
  obtain ⟨d1, hd1⟩ : ∃ d1, str BD = d1 := ⟨_, rfl⟩
  obtain ⟨f1, hf1⟩ : ∃ f1, str (four (crcL BD)) = f1 := ⟨_, rfl⟩
  obtain ⟨r1, hr1'⟩ : ∃ r1, str (BD ++ four (crcL BD)) = r1 := ⟨_, rfl⟩
  rw [hc1', hn1, hc2'] at ha1
  rw [hc2', hp1, hd1] at ha2
  rw [hd1, hf1, hr1'] at ha3
  simp only [hd1, hf1] at HCK
  simp only [hn1] at HPN
  simp only [hp1] at HSH
  rw [hr1']
  have hcv : ∀ (w : World) (g : Nat), w.cell? ⟨g, 0, none⟩ = some (.int .u8 (K : Int)) → (convert 41 9 (.slice (some ⟨g, 0, none⟩) 1 1)).run Tryz.prog w = .ok (.string c1) w := fun w g h => by
    have := run_string1_at (P := Tryz.prog) 41 9 5 Tryz.underlying41 Tryz.underlying5 Tryz.underlying9 w g (K : Int) 1 h
    rw [Int.toNat_natCast, hc1'] at this
    exact this
  have HCV := Lib.hid hcv
  have HCA1 := Lib.hid (show ∀ w : World, (convert 41 9 (.slice (some ⟨w.heap.size, 0, none⟩) 1 1)).run Tryz.prog (w.alloc (.cells #[.int .u8 (K : Int)] 5)) = .ok (.string c1) (w.alloc (.cells #[.int .u8 (K : Int)] 5)) from fun w => hcv _ _ (by simp))
  have HCA2 := Lib.hid (show ∀ w : World, (convert 41 9 (.slice (some ⟨w.heap.size, 0, none⟩) 1 1)).run Tryz.prog (w.alloc (.cells #[.int .u8 (K : Int)] 5)).drew = .ok (.string c1) (w.alloc (.cells #[.int .u8 (K : Int)] 5)).drew from fun w => hcv _ _ (cell_new1 w _ _))
  have w8 := u8_of hk.2
  clear hT hr hE hb hok hsok hsl hbody hbl hbest hf4 hc1' hn1 hp1 hc2' hd1 hf1 hr1' hcv hnl hpl
  go_enter Tryz.func81, Tryz.ntmps81
  go_wp2_with fail
  (with_reducible refine (HT _).out.mono ?_); rintro e w1 ⟨rfl, hb1⟩
  clear HT
  obtain ⟨v0, v1, v2, v3⟩ := HV.out.below hb1 (by rw [HS1.out]; exact Nat.lt_succ_self _)
  have hB1 := bel_trans HB1.out hb1
  have hr1 := HR1.out.step hb1
  go_wp2_with fail
  (with_reducible refine (HCA _ hr1).out.mono ?_); rintro e w2 ⟨rfl, hb2⟩
  clear HCA v0 v1 v2 v3
  have hb12 := bel_trans hb1 hb2
  have hr2 := hr1.step hb2
  have hB2 := bel_trans hB1 hb2
  clear hB1 hr1 hb1 hb2
  go_wp2_with fail
  (with_reducible refine (HSP _ hr2).out.mono ?_); rintro e w3 ⟨x1, x2, rfl, hx1, hx2, hb3⟩
  clear HSP
  obtain ⟨v0, v1, v2, v3⟩ := HV.out.below (bel_trans hb12 hb3) (by rw [HS1.out]; exact Nat.lt_succ_self _)
  have hB3 := bel_trans hB2 hb3
  clear hr2 hb12 hB2 hb3
  go_wp2_with fail
  (with_reducible refine (HSH x2 _ hx2).out.mono ?_); rintro e w4 ⟨rfl, hb4⟩
  have hx3 := hx1.step hb4
  have hB4 := bel_trans hB3 hb4
  clear HSH hx1 hx2 hB3 hb4 v0 v1 v2 v3
  have HX3 := Lib.hid hx3; have HB4 := Lib.hid hB4
  clear hx3 hB4
  go_upto_region 10 with fail
  go_cut [11] from 37 to 45 (fun s w' => s = .string d1 ∧ Below w4.heap.size w4 w')
  case first =>
    have hqa := HCA1.out w4
    have hqb := HCA2.out w4
    go_region_with (first | (go_at_call 121; (with_reducible refine (HPN x1 _ ?_).out.mono ?_); (first | exact HX3.out | exact HX3.out.step (by go_grown)); rintro e w5 ⟨rfl, hb5⟩; have hqc := HCA1.out w5; have hqd := HCA2.out w5; (first | (have hq0 := HCV.out w5 w4.heap.size ((hb5.cell (p := ⟨w4.heap.size, 0, none⟩) (alloc_lt w4 (.cells #[.int .u8 (K : Int)] 5))).trans (cell_new1 w4 (.int .u8 (K : Int)) 5))) | skip)))
    all_goals
      go_wp2_with fail
      go_meet
      case rel =>
        first
          | (have hh : Below w4.heap.size w4 w5 := bel_trans (Below.refl _ _).drew hb5; exact ⟨rfl, hh.alloc hh.size _⟩)
          | exact ⟨rfl, bel_trans (by go_grown) hb5⟩
  case rest =>
    obtain ⟨rfl, hb5⟩ := hcut
    go_wp2_with fail
    (with_reducible refine (HCK _).out.mono ?_); rintro e w6 ⟨rfl, hb6⟩
    go_wp2
    go_ret2
    exact RetB.mk rfl (bel_trans (bel_trans HB4.out hb5) hb6)
end
end Go.Proofs.YtnmlajmaffiigaaGreatDoor
