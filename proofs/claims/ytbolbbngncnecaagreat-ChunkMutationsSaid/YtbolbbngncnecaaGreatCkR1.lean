/- The walks over the reference's chunks: Uses, payload, Build. -/
import Derived.Test.YtbolbbngncnecaaGreatCkW7
import Derived.Test.YtbolbbngncnecaaGreatDltW6
import Derived.Deep.RegionWith
import Derived.Deep.CutRange
namespace Go.CK
open Go.RowKit Go.VB Go.VarM Go.BP Go.VS Go.NU Go.VL
/-- Rows of different types of elements lie in different blocks. -/
theorem own_apart {e e' : TypeId} (he : e ≠ e') {w : World} {base base' : Nat} {v v' : Value} {l : List Bool} {l' : List Vl} (h : OwnV Value.bool e w base v l) (h' : OwnL e' w base' v' l') : v'.ownBlock = none ∨ v'.ownBlock ≠ v.ownBlock := by
  rcases h'.2 with ⟨rfl, _⟩ | ⟨g', c', cur', rfl, _, hg', _⟩
  · exact .inl rfl
  · refine .inr fun e0 => ?_
    rcases h.2 with ⟨rfl, _⟩ | ⟨g, c, cur, rfl, _, hg, _⟩
    · cases e0
    · have : g' = g := Option.some.inj e0
      subst this
      rw [hg] at hg'
      injection hg' with h1
      injection h1 with _ h2
      exact he h2
theorem own_apart' {e e' : TypeId} (he : e ≠ e') {w : World} {base base' : Nat} {v v' : Value} {l : List Bool} {l' : List Vl} (h : OwnV Value.bool e w base v l) (h' : OwnL e' w base' v' l') : v.ownBlock = none ∨ v.ownBlock ≠ v'.ownBlock := by
  rcases h.2 with ⟨rfl, _⟩ | ⟨g, c, cur, rfl, _, hg, _⟩
  · exact .inl rfl
  · refine .inr fun e0 => ?_
    rcases h'.2 with ⟨rfl, _⟩ | ⟨g', c', cur', rfl, _, hg', _⟩
    · cases e0
    · have : g = g' := Option.some.inj e0
      subst this
      rw [hg] at hg'
      injection hg' with h1
      injection h1 with _ h2
      exact he h2
theorem OwnV.ne' {α : Type} {f : α → Value} {e : TypeId} {w : World} {base b : Nat} {v : Value} {l : List α} (h : OwnV f e w base v l) (hb : w.heap.size ≤ b) : v.ownBlock ≠ some b := fun e0 => by
  have := (OwnV.lt h b e0).2
  omega
theorem OwnL.ne' {e : TypeId} {w : World} {base b : Nat} {v : Value} {l : List Vl} (h : OwnL e w base v l) (hb : w.heap.size ≤ b) : v.ownBlock ≠ some b := fun e0 => by
  have := (OwnL.lt h b e0).2
  omega
theorem OwnV.keepG {α : Type} {f : α → Value} {e : TypeId} {w w' : World} {base : Nat} {v : Value} {l : List α} {row : Option Nat} (h : OwnV f e w base v l) (hg : w.grownBy w' row) (hne : v.ownBlock = none ∨ v.ownBlock ≠ row) : OwnV f e w' base v l := World.ownsRow.kept h hg hne
theorem usesI (typ codec : Int) : uses typ codec = if typ = 3 then decide (codec = 1 ∨ codec = 3) else decide (codec = 1 ∨ codec = 2 ∨ codec = 4) := rfl
end Go.CK
namespace Go.Proofs.YtbolbbngncnecaaGreat
open Go.RowKit Go.VB Go.VarM Go.BP Go.RL Go.VS Go.VL Go.DI Go.CK Go.NU
set_option maxRecDepth 100000 in
set_option maxHeartbeats 1000000 in
theorem uses_any (typ codec : Int) (W : World) : Calls Tryz.prog 64 #[.int .i64 typ, .int .i64 codec] W (RetB (.bool (uses typ codec)) W) := by
  rw [usesI]
  by_cases h3 : typ = 3
  · rw [if_pos h3]
    have e0 := ieq_t h3
    clear h3
    have hc : codec = 1 ∨ codec = 3 ∨ (¬ codec = 1 ∧ ¬ codec = 3) := by omega
    rcases hc with rfl | rfl | ⟨h1, h2⟩
    · go_enter Tryz.func64, Tryz.ntmps64
      go_wp2
      go_ret
      exact RetB.mk rfl (Below.refl _ _)
    · go_enter Tryz.func64, Tryz.ntmps64
      go_wp2
      go_ret
      exact RetB.mk rfl (Below.refl _ _)
    · rw [decide_eq_false (by omega)]
      have e1 := ieq_f h1
      have e2 := ieq_f h2
      clear h1 h2
      go_enter Tryz.func64, Tryz.ntmps64
      go_wp2
      go_ret
      exact RetB.mk rfl (Below.refl _ _)
  · rw [if_neg h3]
    have e0 := ieq_f h3
    clear h3
    have hc : codec = 1 ∨ codec = 2 ∨ codec = 4 ∨ (¬ codec = 1 ∧ ¬ codec = 2 ∧ ¬ codec = 4) := by omega
    rcases hc with rfl | rfl | rfl | ⟨h1, h2, h4⟩
    · go_enter Tryz.func64, Tryz.ntmps64
      go_wp2
      go_ret
      exact RetB.mk rfl (Below.refl _ _)
    · go_enter Tryz.func64, Tryz.ntmps64
      go_wp2
      go_ret
      exact RetB.mk rfl (Below.refl _ _)
    · go_enter Tryz.func64, Tryz.ntmps64
      go_wp2
      go_ret
      exact RetB.mk rfl (Below.refl _ _)
    · rw [decide_eq_false (by omega)]
      have e1 := ieq_f h1
      have e2 := ieq_f h2
      have e4 := ieq_f h4
      clear h1 h2 h4
      go_enter Tryz.func64, Tryz.ntmps64
      go_wp2
      go_ret
      exact RetB.mk rfl (Below.refl _ _)
section
variable (typ : Int) (v : Value) (l : List Vl) (W : World) (hr : RdL W W.heap.size v l) (hl : l.length ≤ 4096) (hv : ∀ x ∈ l, Vok x)
include hr hl hv
set_option maxRecDepth 100000 in
set_option maxHeartbeats 1000000 in
theorem rpay_1 : Calls Tryz.prog 17 #[.int .i64 typ, .int .i64 1, v] W (RetB (.string (str (payB typ 1 l))) W) := by
  rw [payB_1]
  obtain ⟨A, c, _, rfl, rfl, hc1, hc2⟩ := hr.bds
  have HR := Lib.hid hr; have HV := Lib.hid hv; clear hr hv
  have H3 := Lib.hid (Classical.em (typ = 3))
  go_enter Tryz.func17, Tryz.ntmps17
  go_wp2
  go_loopw [7, 28] (fun sv i wr => ∃ (j : Nat), i = .int .i64 j ∧ j ≤ l.length ∧ sv = .string (str (plainB typ (l.take j))) ∧ Below W.heap.size W wr) (fun _ i _ => l.length - (intOf i).toNat)
  case atStart => exact ⟨0, rfl, Nat.zero_le _, rfl, Below.refl _ _⟩
  case round =>
    obtain ⟨j, rfl, hj, rfl, hbel⟩ := hrel
    by_cases hlt : j < l.length
    · have hlj : l[j]? = some l[j] := List.getElem?_eq_getElem hlt
      obtain ⟨ad, rfl, _, q0, q1, q2⟩ := (HR.out.below hbel).at hlj
      have HJ := Lib.hid hlj; clear hlj
      have hvx := HV.out l[j] (List.getElem_mem hlt)
      have hlen := plain_le (typ := typ) (vok_take HV.out j)
      have hlt2 : (l.take j).length ≤ 4096 := by rw [List.length_take]; omega
      generalize l[j] = X at q0 q1 q2 HJ hvx
      obtain ⟨xb, xn, xs⟩ := X
      obtain ⟨hx1, hx2⟩ := hvx
      simp only at q0 q1 q2 hx1 hx2
      have HP := Lib.hid (plain_snoc (typ := typ) HJ.out)
      generalize plainB typ (l.take j) = bs at hlen HP
      have hbs : bs.length ≤ 303104 := by omega
      clear hlen hlt2
      have HBA := Lib.hid (hbel.alloc hbel.size (.cells #[.bool xb, .int .i64 xn, .string xs] 42))
      have HSA := Lib.hid (show (wr.alloc (.cells #[.bool xb, .int .i64 xn, .string xs] 42)).heap.size = wr.heap.size + 1 by simp)
      have HCA := Lib.hid (show (wr.alloc (.cells #[.bool xb, .int .i64 xn, .string xs] 42)).cell? ⟨wr.heap.size, 2, none⟩ = some (.string xs) by simp)
      rcases H3.out with h3 | h3
      · have hq : xs.size < 18446744073709551616 := by omega
        have w1 : IntKind.u64.wrap (xs.size : Int) = (xs.size : Int) := by rw [IntKind.wrap_u64]; omega
        have hP := fun w => Lib.hid (rput_any xs.size w hq)
        have hPl := putL_len10 hq
        have HO := Lib.hid (show one typ ⟨xb, xn, xs⟩ = putL xs.size ++ xs.data.toList by unfold one; rw [if_pos h3])
        have e3 := ieq_t h3
        have ha1 := fun w => run_add_2 (P := Tryz.prog) (putL xs.size) xs.data.toList (by rw [size_list]; omega) w
        rw [str_of] at ha1
        have ha2 := fun w => run_add_2 (P := Tryz.prog) bs (putL xs.size ++ xs.data.toList) (by rw [List.length_append, size_list]; omega) w
        clear h3 hbel
        have hca := HCA.out
        have hcb : (wr.alloc (.cells #[.bool xb, .int .i64 xn, .string xs] 42)).drew.cell? ⟨wr.heap.size, 2, none⟩ = some (.string xs) := hca
        go_wp2_with fail
        go_region_with (first | (go_at_call 15; (with_reducible refine (hP _).out.mono ?_); rintro e w3 ⟨rfl, hb3⟩; have hc3 := (hb3.cell (p := ⟨wr.heap.size, 2, none⟩) (alloc_lt wr (.cells #[.bool xb, .int .i64 xn, .string xs] 42))).trans hca))
        all_goals
          go_wp2_with fail
          go_roundw
          case rel => exact ⟨j + 1, by go_num, hlt, by rw [HP.out, HO.out], bel_trans HBA.out.drew hb3⟩
          case measure => simp [intOf] <;> omega
      · have e3 := ieq_f h3
        obtain ⟨z, hz1, hz2, hz3⟩ := zig_nat hx2
        have HZ := fun w => Lib.hid (rzig_any xn w hx2.1 hx2.2)
        rw [hz1] at HZ
        have hP := fun w => Lib.hid (rput_any z w hz3)
        have hPl := putL_len10 hz3
        have HO := Lib.hid (show one typ ⟨xb, xn, xs⟩ = putL z by unfold one; rw [if_neg h3]; show putL (zigN xn).toNat = _; rw [hz2])
        have ha2 := fun w => run_add_2 (P := Tryz.prog) bs (putL z) (by omega) w
        clear hz1 hz2 h3 hbel
        go_wp2_with fail
        (with_reducible refine (HZ _).out.mono ?_); rintro e w2 ⟨rfl, rfl⟩
        go_wp2_with fail
        (with_reducible refine (hP _).out.mono ?_); rintro e w3 ⟨rfl, hb3⟩
        go_wp2_with fail
        go_roundw
        case rel => exact ⟨j + 1, by go_num, hlt, by rw [HP.out, HO.out], bel_trans HBA.out hb3⟩
        case measure => simp [intOf] <;> omega
    · have HT := Lib.hid (show l.take j = l from List.take_of_length_le (by omega))
      rw [HT.out]
      generalize str (plainB typ l) = S at *
      go_wp2
      go_ret
      exact RetB.mk rfl hbel
set_option maxRecDepth 100000 in
set_option maxHeartbeats 1000000 in
theorem rpay_2 : Calls Tryz.prog 17 #[.int .i64 typ, .int .i64 2, v] W (RetB (.string (str (payB typ 2 l))) W) := by
  rw [payB_2]
  have HN := Lib.hid (rnums_any v l W hr (by omega))
  have HI := Lib.hid (nums_ok hv)
  have hlen : (nums l).length ≤ 4096 := by rw [show (nums l).length = l.length from List.length_map _]; exact hl
  have HE := Lib.hid (fun (v : Value) (w : World) (h : RdV (Value.int .i64) w w.heap.size v (nums l)) => rencode_any v (nums l) w.heap.size w h (Nat.le_refl _) HI.out (by omega))
  change Hid (Calls _ _ _ W (RetV (Value.int .i64) 2 (nums l) W)) at HN
  clear hr hv
  generalize nums l = zl at *
  generalize str (encR zl) = S at *
  go_enter Tryz.func17, Tryz.ntmps17
  go_wp2_with fail
  (with_reducible refine HN.out.mono ?_); rintro e w1 ⟨v1, rfl, hown, hb1⟩
  go_wp2_with fail
  (with_reducible refine (HE.out v1 w1 hown.read).mono ?_); rintro e w2 ⟨rfl, hb2⟩
  have hB := bel_trans hb1 hb2
  go_wp2
  go_ret
  exact RetB.mk rfl hB
set_option maxRecDepth 100000 in
set_option maxHeartbeats 1000000 in
theorem rpay_3 : Calls Tryz.prog 17 #[.int .i64 typ, .int .i64 3, v] W (RetB (.string (str (payB typ 3 l))) W) := by
  rw [payB_3]
  have HN := Lib.hid (rtxts_any v l W hr (by omega))
  have hI := txts_ok hv
  have hlen : (txts l).length ≤ 4096 := by rw [show (txts l).length = l.length from List.length_map _]; exact hl
  have hel := encD_le hlen hI
  have HE := Lib.hid (fun (v : Value) (w : World) (h : RdV Value.string w w.heap.size v (txts l)) => rdictenc_any v (txts l) w.heap.size w h (Nat.le_refl _) (by omega) (fun x hx => Nat.le_trans (hI x hx) (by decide)) (by omega))
  change Hid (Calls _ _ _ W (RetV Value.string 9 (txts l) W)) at HN
  clear hr hv hI hel
  generalize txts l = zl at *
  generalize str (encD zl) = S at *
  go_enter Tryz.func17, Tryz.ntmps17
  go_wp2_with fail
  (with_reducible refine HN.out.mono ?_); rintro e w1 ⟨v1, rfl, hown, hb1⟩
  go_wp2_with fail
  (with_reducible refine (HE.out v1 w1 hown.read).mono ?_); rintro e w2 ⟨rfl, hb2⟩
  have hB := bel_trans hb1 hb2
  go_wp2
  go_ret
  exact RetB.mk rfl hB
set_option maxRecDepth 100000 in
set_option maxHeartbeats 1000000 in
theorem rpay_4 : Calls Tryz.prog 17 #[.int .i64 typ, .int .i64 4, v] W (RetB (.string (str (payB typ 4 l))) W) := by
  rw [payB_4]
  have HN := Lib.hid (rnums_any v l W hr (by omega))
  have HI := Lib.hid (nums_ok hv)
  have HE := Lib.hid (fun (v : Value) (w : World) (h : RdV (Value.int .i64) w w.heap.size v (nums l)) => rdencode_any v (nums l) w.heap.size w h (Nat.le_refl _) HI.out)
  change Hid (Calls _ _ _ W (RetV (Value.int .i64) 2 (nums l) W)) at HN
  clear hr hv
  generalize nums l = zl at *
  generalize str (Go.DL.encX zl) = S at *
  go_enter Tryz.func17, Tryz.ntmps17
  go_wp2_with fail
  (with_reducible refine HN.out.mono ?_); rintro e w1 ⟨v1, rfl, hown, hb1⟩
  go_wp2_with fail
  (with_reducible refine (HE.out v1 w1 hown.read).mono ?_); rintro e w2 ⟨rfl, hb2⟩
  have hB := bel_trans hb1 hb2
  go_wp2
  go_ret
  exact RetB.mk rfl hB
theorem rpay_any (codec : Nat) (h1 : 1 ≤ codec) (h4 : codec ≤ 4) : Calls Tryz.prog 17 #[.int .i64 typ, .int .i64 (codec : Int), v] W (RetB (.string (str (payB typ codec l))) W) := by
  have h : codec = 1 ∨ codec = 2 ∨ codec = 3 ∨ codec = 4 := by omega
  rcases h with rfl | rfl | rfl | rfl
  · exact rpay_1 typ v l W hr hl hv
  · exact rpay_2 typ v l W hr hl hv
  · exact rpay_3 typ v l W hr hl hv
  · exact rpay_4 typ v l W hr hl hv
end
end Go.Proofs.YtbolbbngncnecaaGreat
