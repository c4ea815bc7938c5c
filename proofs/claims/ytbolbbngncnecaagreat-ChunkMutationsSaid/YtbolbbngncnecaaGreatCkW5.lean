/- The walks over package chunk: putPlain, putPayload. -/
import Derived.Test.YtbolbbngncnecaaGreatCkW4
import Derived.Test.YtbolbbngncnecaaGreatGL
namespace Go.VB
open Go.RowKit
theorem grown_cell {w w' : World} {row : Option Nat} {b i : Nat} {x : Value} (hg : w.grownBy w' row) (hlt : b < w.heap.size) (hne : row ≠ some b) (h : w.cell? ⟨b, i, none⟩ = some x) : w'.cell? ⟨b, i, none⟩ = some x := by
  rw [World.cell?_of_block (hg.block b hlt (Ne.symm hne))]; exact h
theorem OwnB.ne {e : TypeId} {w : World} {base b : Nat} {v : Value} {bs : List UInt8} (h : OwnB e w base v bs) (hb : w.heap.size ≤ b) : v.ownBlock ≠ some b := fun e => by
  have := (World.ownsRow.lt h b e).2
  omega
end Go.VB
namespace Go.Proofs.YtbolbbngncnecaaGreat
open Go.RowKit Go.VB Go.VarM Go.BP Go.RL Go.VS Go.VL Go.DI Go.CK Go.NU
theorem vok_take {l : List Vl} (h : ∀ x ∈ l, Vok x) (j : Nat) : ∀ x ∈ l.take j, Vok x := fun x hx => h x (List.mem_of_mem_take hx)
set_option maxRecDepth 100000 in
set_option maxHeartbeats 1000000 in
theorem putPlain_any (typ : Int) (v : Value) (l : List Vl) (W : World) (hr : RdL W W.heap.size v l) (hl : l.length ≤ 4096) (hv : ∀ x ∈ l, Vok x) :
    Calls Tryz.prog 76 #[.int .i64 typ, v] W (RetB (.string (str (plainB typ l))) W) := by
  obtain ⟨A, c, _, rfl, rfl, hc1, hc2⟩ := hr.bds
  have HR := Lib.hid hr; have HV := Lib.hid hv; clear hr hv
  have H3 := Lib.hid (Classical.em (typ = 3))
  go_enter Tryz.func76, Tryz.ntmps76
  go_wp2
  go_loopw [5, 11] (fun pv i wr => ∃ (j : Nat), i = .int .i64 j ∧ j ≤ l.length ∧ OwnB 5 wr W.heap.size pv (plainB typ (l.take j)) ∧ Below W.heap.size W wr) (fun _ i _ => l.length - (intOf i).toNat)
  case atStart => exact ⟨0, rfl, Nat.zero_le _, OwnB.empty _ _ _ _ (Nat.le_refl _) _ rfl (by decide), (Below.refl _ _).alloc (Nat.le_refl _) _⟩
  case round =>
    obtain ⟨j, rfl, hj, hown, hbel⟩ := hrel
    by_cases hlt : j < l.length
    · have hlj : l[j]? = some l[j] := List.getElem?_eq_getElem hlt
      obtain ⟨ad, rfl, _, q0, q1, q2⟩ := (HR.out.below hbel).at hlj
      have HJ := Lib.hid hlj; clear hlj
      have hvx := HV.out l[j] (List.getElem_mem hlt)
      have hlen := plain_le (typ := typ) (vok_take HV.out j)
      have hlt2 : (l.take j).length ≤ 4096 := by rw [List.length_take]; omega
      generalize l[j] = X at q0 q1 q2 HJ hvx
      obtain ⟨xb, xn, xs⟩ := X
      obtain ⟨hx1, hx2⟩ := hvx
      simp only at q0 q1 q2 hx1 hx2
      have HP := Lib.hid (plain_snoc (typ := typ) HJ.out)
      generalize hbs : plainB typ (l.take j) = bs at hown hlen HP
      clear hbs
      have hbs : bs.length ≤ 303104 := by omega
      clear hlen hlt2
      have hszw := hbel.size
      have hoa := hown.alloc (.cells #[.bool xb, .int .i64 xn, .string xs] 42)
      have hba := hbel.alloc hszw (.cells #[.bool xb, .int .i64 xn, .string xs] 42)
      have hsa : (wr.alloc (.cells #[.bool xb, .int .i64 xn, .string xs] 42)).heap.size = wr.heap.size + 1 := by simp
      have hca : (wr.alloc (.cells #[.bool xb, .int .i64 xn, .string xs] 42)).cell? ⟨wr.heap.size, 2, none⟩ = some (.string xs) := by simp
      have hne := OwnB.ne hown (Nat.le_refl _)
      rcases H3.out with h3 | h3
      · have hq : xs.size < 18446744073709551616 := by omega
        have w1 : IntKind.u64.wrap (xs.size : Int) = (xs.size : Int) := by rw [IntKind.wrap_u64]; omega
        have hP := fun w => Lib.hid (vput_any xs.size w hq)
        have hPl := putL_len10 hq
        have HO := Lib.hid (show one typ ⟨xb, xn, xs⟩ = putL xs.size ++ xs.data.toList by unfold one; rw [if_pos h3])
        have e3 := ieq_t h3
        clear h3
        have HOA := Lib.hid hoa; have HBA := Lib.hid hba; have HSA := Lib.hid hsa; have HCA := Lib.hid hca; have HNE := Lib.hid hne
        clear hoa hba hsa hca hne hown hbel
        go_wp2_with fail
        (with_reducible refine (hP _).out.mono ?_); rintro e w3 ⟨rfl, hb3⟩
        have hown3 := HOA.out.below hb3
        have hb3s := hb3.size
        rw [HSA.out] at hb3s
        have hbel3 := bel_trans HBA.out hb3
        have hc3 := (hb3.cell (p := ⟨wr.heap.size, 2, none⟩) (by rw [HSA.out]; exact Nat.lt_succ_self _)).trans HCA.out
        clear hP hb3 HOA HBA HCA
        have H5 := Lib.hid (show bs.length + (str (putL xs.size)).size ≤ 225179981368000 by rw [str_size]; omega)
        go_wp2_with (at_builtin; refine wpl_appS rfl _ _ 30 9 rfl W.heap.size 5 Tryz.underlying30 Tryz.underlying9 Tryz.infoU8 _ bs rfl hown3 _ rfl H5.out hbel3.size ?_)
        intro v4 w4 hown4 hb4 hg4
        have hc4 := grown_cell hg4 (by omega) HNE.out hc3
        have hbel4 := hbel3.trans hb4
        have H6 := Lib.hid (show (bs ++ (str (putL xs.size)).data.toList).length + xs.size ≤ 225179981368000 by rw [List.length_append, size_list, str_size]; omega)
        clear hown3 hbel3 hc3 hb4 hg4
        go_wp2_with (at_builtin; refine wpl_appS rfl _ _ 30 9 rfl W.heap.size 5 Tryz.underlying30 Tryz.underlying9 Tryz.infoU8 _ (bs ++ (str (putL xs.size)).data.toList) rfl hown4 _ rfl H6.out hbel4.size ?_)
        intro v5 w5 hown5 hb5 hg5
        have hbel5 := hbel4.trans hb5
        clear hown4 hbel4 hc4 hb5 hg5
        go_wp2_with fail
        go_roundw
        case rel => exact ⟨j + 1, by go_num, hlt, by rw [HP.out, HO.out]; simp only [str_toList] at hown5 ⊢; exact hown5, hbel5⟩
        case measure => simp [intOf] <;> omega
      · have e3 := ieq_f h3
        obtain ⟨z, hz1, hz2, hz3⟩ := zig_nat hx2
        have HZ := fun w => Lib.hid (vzig_any xn w hx2.1 hx2.2)
        rw [hz1] at HZ
        have hP := fun w => Lib.hid (vput_any z w hz3)
        have hPl := putL_len10 hz3
        have HO := Lib.hid (show one typ ⟨xb, xn, xs⟩ = putL z by unfold one; rw [if_neg h3]; show putL (zigN xn).toNat = _; rw [hz2])
        clear hz1 hz2 h3
        have HOA := Lib.hid hoa; have HBA := Lib.hid hba; have HSA := Lib.hid hsa; have HNE := Lib.hid hne
        clear hoa hba hsa hca hne hown hbel
        go_wp2_with fail
        (with_reducible refine (HZ _).out.mono ?_); rintro e w2 ⟨rfl, rfl⟩
        go_wp2_with fail
        (with_reducible refine (hP _).out.mono ?_); rintro e w3 ⟨rfl, hb3⟩
        have hown3 := HOA.out.below hb3
        have hbel3 := bel_trans HBA.out hb3
        clear hP hb3 HOA HBA
        have H5 := Lib.hid (show bs.length + (str (putL z)).size ≤ 225179981368000 by rw [str_size]; omega)
        go_wp2_with (at_builtin; refine wpl_appS rfl _ _ 30 9 rfl W.heap.size 5 Tryz.underlying30 Tryz.underlying9 Tryz.infoU8 _ bs rfl hown3 _ rfl H5.out hbel3.size ?_)
        intro v4 w4 hown4 hb4 hg4
        have hbel4 := hbel3.trans hb4
        clear hown3 hbel3 hb4 hg4
        go_wp2_with fail
        go_roundw
        case rel => exact ⟨j + 1, by go_num, hlt, by rw [HP.out, HO.out]; exact hown4, hbel4⟩
        case measure => simp [intOf] <;> omega
    · have HT := Lib.hid (show l.take j = l from List.take_of_length_le (by omega))
      rw [HT.out] at hown
      have hcv := run_string_of_own (P := Tryz.prog) 30 9 5 Tryz.underlying30 Tryz.underlying5 Tryz.underlying9 hown
      clear hown
      generalize str (plainB typ l) = S at *
      go_wp2
      go_ret
      exact RetB.mk rfl hbel
section
variable (typ : Int) (v : Value) (l : List Vl) (W : World) (hr : RdL W W.heap.size v l) (hl : l.length ≤ 4096) (hv : ∀ x ∈ l, Vok x)
include hr hl hv
set_option maxRecDepth 100000 in
set_option maxHeartbeats 1000000 in
theorem putPay_1 : Calls Tryz.prog 49 #[.int .i64 typ, .int .i64 1, v] W (RetB (.string (str (payB typ 1 l))) W) := by
  rw [payB_1]
  have HP := Lib.hid (putPlain_any typ v l W hr hl hv)
  clear hr hv
  generalize str (plainB typ l) = S at *
  go_enter Tryz.func49, Tryz.ntmps49
  go_wp2_with fail
  (with_reducible refine HP.out.mono ?_); rintro e w1 ⟨rfl, hb⟩
  go_wp2
  go_ret
  exact RetB.mk rfl hb
set_option maxRecDepth 100000 in
set_option maxHeartbeats 1000000 in
theorem putPay_2 : Calls Tryz.prog 49 #[.int .i64 typ, .int .i64 2, v] W (RetB (.string (str (payB typ 2 l))) W) := by
  rw [payB_2]
  have HN := Lib.hid (numsOf_any v l W hr (by omega))
  have HI := Lib.hid (nums_ok hv)
  have hlen : (nums l).length ≤ 4096 := by rw [show (nums l).length = l.length from List.length_map _]; exact hl
  have HE := Lib.hid (fun (v : Value) (w : World) (h : RdV (Value.int .i64) w w.heap.size v (nums l)) => encode_any v (nums l) w.heap.size w h (Nat.le_refl _) HI.out (by omega))
  change Hid (Calls _ _ _ W (RetV (Value.int .i64) 2 (nums l) W)) at HN
  clear hr hv
  generalize nums l = zl at *
  generalize str (encR zl) = S at *
  go_enter Tryz.func49, Tryz.ntmps49
  go_wp2_with fail
  (with_reducible refine HN.out.mono ?_); rintro e w1 ⟨v1, rfl, hown, hb1⟩
  go_wp2_with fail
  (with_reducible refine (HE.out v1 w1 hown.read).mono ?_); rintro e w2 ⟨rfl, hb2⟩
  have hB := bel_trans hb1 hb2
  go_wp2
  go_ret
  exact RetB.mk rfl hB
set_option maxRecDepth 100000 in
set_option maxHeartbeats 1000000 in
theorem putPay_3 : Calls Tryz.prog 49 #[.int .i64 typ, .int .i64 3, v] W (RetB (.string (str (payB typ 3 l))) W) := by
  rw [payB_3]
  have HN := Lib.hid (txtsOf_any v l W hr (by omega))
  have hI := txts_ok hv
  have hlen : (txts l).length ≤ 4096 := by rw [show (txts l).length = l.length from List.length_map _]; exact hl
  have hel := encD_le hlen hI
  have HE := Lib.hid (fun (v : Value) (w : World) (h : RdV Value.string w w.heap.size v (txts l)) => dictenc_any v (txts l) w.heap.size w h (Nat.le_refl _) (by omega) (fun x hx => Nat.le_trans (hI x hx) (by decide)) (by omega))
  change Hid (Calls _ _ _ W (RetV Value.string 9 (txts l) W)) at HN
  clear hr hv hI hel
  generalize txts l = zl at *
  generalize str (encD zl) = S at *
  go_enter Tryz.func49, Tryz.ntmps49
  go_wp2_with fail
  (with_reducible refine HN.out.mono ?_); rintro e w1 ⟨v1, rfl, hown, hb1⟩
  go_wp2_with fail
  (with_reducible refine (HE.out v1 w1 hown.read).mono ?_); rintro e w2 ⟨rfl, hb2⟩
  have hB := bel_trans hb1 hb2
  go_wp2
  go_ret
  exact RetB.mk rfl hB
set_option maxRecDepth 100000 in
set_option maxHeartbeats 1000000 in
theorem putPay_4 : Calls Tryz.prog 49 #[.int .i64 typ, .int .i64 4, v] W (RetB (.string (str (payB typ 4 l))) W) := by
  rw [payB_4]
  have HN := Lib.hid (numsOf_any v l W hr (by omega))
  have HI := Lib.hid (nums_ok hv)
  have HE := Lib.hid (fun (v : Value) (w : World) (h : RdV (Value.int .i64) w w.heap.size v (nums l)) => dencode_any v (nums l) w.heap.size w h (Nat.le_refl _) HI.out)
  change Hid (Calls _ _ _ W (RetV (Value.int .i64) 2 (nums l) W)) at HN
  clear hr hv
  generalize nums l = zl at *
  generalize str (Go.DL.encX zl) = S at *
  go_enter Tryz.func49, Tryz.ntmps49
  go_wp2_with fail
  (with_reducible refine HN.out.mono ?_); rintro e w1 ⟨v1, rfl, hown, hb1⟩
  go_wp2_with fail
  (with_reducible refine (HE.out v1 w1 hown.read).mono ?_); rintro e w2 ⟨rfl, hb2⟩
  have hB := bel_trans hb1 hb2
  go_wp2
  go_ret
  exact RetB.mk rfl hB
end
end Go.Proofs.YtbolbbngncnecaaGreat
