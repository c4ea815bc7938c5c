/- The walks over package dict: the look-up of the indices, Decode. -/
import Derived.Test.YtikokmafofbofaaDctW5
namespace Go.Proofs.Ytikokmafofbofaa
open Go.RowKit Go.VB Go.VarM Go.BP Go.RL Go.DI
set_option maxRecDepth 100000 in
set_option maxHeartbeats 4000000 in
theorem lookup_any (v1 v2 : Value) (ws : List ByteArray) (u : List Nat) (w : World) (hr1 : RdV Value.string w w.heap.size v1 ws) (hr2 : RdN .u64 w w.heap.size v2 u) (hws : ws.length ≤ 4096) (hu : u.length ≤ 4096) (hu64 : ∀ x ∈ u, x < 2 ^ 64) {l : List ByteArray} {c : Nat} (hd : lkR ws u = (l, c)) :
    Calls Try.prog 36 #[v1, v2] w (RetVE Value.string 9 l c w) := by
  have hrU := RdN.toU hr2
  clear hr2
  obtain ⟨A1, c1, _, rfl, rfl, hc1, hc2⟩ := hr1.bds
  obtain ⟨A2, c2, _, rfl, rfl, hd1, hd2⟩ := hrU.bds
  have hmk1 := run_makeV (P := Try.prog) (t := 22) (z := .string ⟨#[]⟩) rfl Try.underlying22 Try.infStr u.length (by omega) (by unfold maxLen; omega) w
  have hrow1 := RowV.made Value.string ⟨#[]⟩ 9 w w.heap.size u.length (Nat.le_refl _) (by unfold maxLen; omega)
  have hb1 := (Below.refl w.heap.size w).alloc (Nat.le_refl _) (.cells (madeCells #[.string ⟨#[]⟩] u.length) 9)
  have hsz1 : w.heap.size < (w.alloc (.cells (madeCells #[.string ⟨#[]⟩] u.length) 9)).heap.size := by simp
  generalize w.alloc (.cells (madeCells #[.string ⟨#[]⟩] u.length) 9) = w1 at hmk1 hrow1 hb1 hsz1
  have hmk2 := run_makeV (P := Try.prog) (t := 33) (z := .bool false) rfl Try.underlying33 Try.infBl ws.length (by omega) (by unfold maxLen; omega) w1
  have hrow2 := RowV.made Value.bool false 4 w1 w.heap.size ws.length (by omega) (by unfold maxLen; omega)
  have hrow1' := hrow1.alloc (.cells (madeCells #[.bool false] ws.length) 4)
  have hb2 := hb1.alloc (by omega) (.cells (madeCells #[.bool false] ws.length) 4)
  generalize hg2 : w1.heap.size = g2 at hmk2 hrow2 hsz1
  have hne : w.heap.size ≠ g2 := by omega
  generalize w1.alloc (.cells (madeCells #[.bool false] ws.length) 4) = w2 at hmk2 hrow2 hrow1' hb2
  clear hg2 hrow1 hb1
  have HR1 := Lib.hid hr1; have HRU := Lib.hid hrU; have HU := Lib.hid hu64; have HD := Lib.hid hd
  clear hr1 hrU hu64 hd
  go_enter Try.func36, Try.ntmps36
  go_wp2_with fail
  clear hmk1 hmk2
  go_loopw [8, 21] (fun n i wr => ∃ (j m : Nat) (L : List ByteArray) (U : List Bool), n = .int .i64 m ∧ i = .int .i64 j ∧ j ≤ u.length ∧ RowV Value.string 9 wr w.heap.size w.heap.size u.length L ∧ RowV Value.bool 4 wr w.heap.size g2 ws.length U ∧ L = (u.map fun i => ws.getD i ⟨#[]⟩).take j ++ List.replicate (u.length - j) ⟨#[]⟩ ∧ UOk ws.length u j U ∧ m = U.count false ∧ (∀ i ∈ u.take j, i < ws.length) ∧ Below w.heap.size w wr) (fun _ i _ => u.length - (intOf i).toNat)
  case atStart => exact ⟨0, ws.length, _, _, rfl, rfl, Nat.zero_le _, hrow1', hrow2, fill_start _ u.length _, UOk.start _ _, by rw [List.count_replicate_self], by simp, hb2⟩
  case round =>
    clear hrow1' hrow2 hb2
    obtain ⟨j, m, L, U, rfl, rfl, hj, hrow1, hrow2, hL, hU, hm, hlt, hbel⟩ := hrel
    have HL := Lib.hid hL; have HM := Lib.hid hm; have HLT := Lib.hid hlt; have HUO := Lib.hid hU
    have hmn : m ≤ ws.length := by rw [hm, ← hU.1]; exact List.count_le_length
    clear hL hm hlt hU
    by_cases hjl : j < u.length
    · have hx : u[j]? = some u[j] := List.getElem?_eq_getElem hjl
      obtain ⟨ad, rfl, _, hgx0⟩ := (HRU.out.below hbel).at hx
      have hx64 := HU.out _ (List.mem_of_getElem? hx)
      have hxm := List.mem_of_getElem? hx
      have HX := Lib.hid hx; have HXM := Lib.hid hxm
      clear hx hxm
      generalize u[j] = x at hgx0 hx64 HX HXM
      have hgx : wr.cell? (ad.add j) = some (.int .u64 (x : Int)) := hgx0
      clear hgx0
      by_cases hxl : x < ws.length
      · have hy : ws[x]? = some ws[x] := List.getElem?_eq_getElem hxl
        obtain ⟨bd, rfl, _, hgy⟩ := (HR1.out.below hbel).at hy
        have hfl := fill_set (l := u.map fun i => ws.getD i ⟨#[]⟩) (n := u.length) (j := j) (x := ws[x]) (z := ⟨#[]⟩) (List.length_map _) hjl (by rw [List.getElem?_map, HX.out, Option.map_some, List.getD_eq_getElem?_getD, hy]; rfl)
        have HFL := Lib.hid hfl
        clear hy hfl
        generalize ws[x] = y at hgy HFL
        have hlL : L.length = u.length := by rw [HL.out]; exact fill_len (List.length_map _) hj
        have hLj : L[j]? = some (L[j]'(by omega)) := List.getElem?_eq_getElem _
        have hcl := hrow1.cell j _ hLj
        have hf1 := hrow1.frozen j
        generalize L[j]'_ = old at hcl
        have hst1 := hrow1.store j y
        have hst2 := hrow2.other hrow1 (fun e => hne e.symm) j y
        have hbel1 := hbel.setCell (p := ⟨w.heap.size, j, none⟩) (Nat.le_refl _) (.string y)
        have hUx : U[x]? = some (U[x]'(by rw [HUO.out.1]; exact hxl)) := List.getElem?_eq_getElem _
        have hc2 : (wr.setCell ⟨w.heap.size, j, none⟩ (.string y)).cell? ⟨g2, x, none⟩ = _ := hst2.cell x _ hUx
        have hf2 : (wr.setCell ⟨w.heap.size, j, none⟩ (.string y)).frozen? ⟨g2, x, none⟩ = false := hst2.frozen x
        have hc2' := hrow2.cell x _ hUx
        have hf2' := hrow2.frozen x
        have hltx : ∀ i ∈ u.take (j + 1), i < ws.length := by
          intro i hi
          rw [Go.DI.take_snoc HX.out] at hi
          rcases List.mem_append.1 hi with hi | hi
          · exact HLT.out i hi
          · rw [List.mem_singleton.1 hi]; exact hxl
        have HLTX := Lib.hid hltx
        clear hLj hlL hltx
        generalize hux : U[x]'_ = ux at hc2 hUx hc2'
        clear hux
        cases ux with
        | true =>
          have HUS := Lib.hid (HUO.out.same HX.out hxl hUx)
          have HST1 := Lib.hid hst1; have HST2 := Lib.hid hst2; have HB := Lib.hid hbel1
          clear hUx hst1 hst2 hbel1
          go_wp2_with fail
          go_roundw
          case rel => exact ⟨j + 1, m, _, U, rfl, by go_num, hjl, HST1.out, HST2.out, by rw [HL.out]; exact HFL.out, HUS.out, HM.out, HLTX.out, HB.out⟩
          case measure => simp [intOf] <;> omega
        | false =>
          have HUS := Lib.hid (HUO.out.step HX.out hxl)
          have hcn := count_off hUx
          have hm1 : 1 ≤ m := by rw [HM.out]; omega
          have HCN := Lib.hid hcn
          have HST1 := Lib.hid (hst1.other hst2 hne x true); have HST2 := Lib.hid (hst2.store x true); have HB := Lib.hid (hbel1.setCell (p := ⟨g2, x, none⟩) (by simp only; omega) (.bool true))
          clear hUx hst1 hst2 hbel1 hcn
          go_wp2_with fail
          go_roundw
          case rel => exact ⟨j + 1, m - 1, _, _, vint (by omega), by go_num, hjl, HST1.out, HST2.out, by rw [HL.out]; exact HFL.out, HUS.out, by have := HCN.out; have := HM.out; omega, HLTX.out, HB.out⟩
          case measure => simp [intOf] <;> omega
      · have h := HD.out
        rw [lkR_big HXM.out hxl] at h
        cases h
        have hxi : (ws.length : Int) ≤ (x : Int) := by omega
        go_wp2_with fail
        go_ret2
        exact RetVE.mk rfl (OwnV.nil _ _ _ _) hbel
    · have hall : ∀ i ∈ u, i < ws.length := by
        have := HLT.out
        rwa [List.take_of_length_le (by omega)] at this
      rcases Nat.eq_zero_or_pos m with h0 | h0
      · have hn := HUO.out.none (by omega) (by rw [← HM.out]; exact h0)
        have h := HD.out
        rw [lkR_ok hall hn] at h
        have hjn : j = u.length := by omega
        have hfin : L = u.map fun i => ws.getD i ⟨#[]⟩ := by rw [HL.out, hjn]; exact fill_end (List.length_map _)
        have HF := Lib.hid hfin
        have hm0 : m ≤ 0 := by omega
        have HH := Lib.hid h
        have hlu : L.length = u.length := by rw [hfin, List.length_map]
        have HLU := Lib.hid hlu
        clear hall hn h hjn hfin h0 hlu
        go_wp2_with fail
        go_ret2
        have h := HH.out
        cases h
        exact RetVE.mk rfl (hrow1.own_at HLU.out HF.out) hbel
      · obtain ⟨mm, hm1, hm2⟩ := HUO.out.some (by omega) (by rw [← HM.out]; exact h0)
        have h := HD.out
        rw [lkR_un hm1 hm2] at h
        cases h
        clear hall hm1 hm2
        go_wp2_with fail
        go_ret2
        exact RetVE.mk rfl (OwnV.nil _ _ _ _) hbel
section
variable (s : ByteArray) (hs : s.size ≤ 140737488351232)
include hs
set_option maxRecDepth 100000 in
set_option maxHeartbeats 4000000 in
theorem decode_in (n a b : Nat) (w : World) (hn : n ≤ 4096) (hg : getR s 0 = (a, (b : Int), 0)) (hbs : b ≤ s.size) (hk : a ≤ n ∧ (a = 0 → n = 0)) (b0 : Bool) (hd0 : ((a : Int) == 0) = b0) (hd1 : b0 = true → n ≤ 0) :
    Calls Try.prog 20 #[.string s, .int .i64 (n : Int)] w (RetVE Value.string 9 (decD s (n : Nat)).1 (decD s (n : Nat)).2 w) := by
  have HG := fun w => Lib.hid (vget_ok s 0 w (by unfold maxLen; omega) hg)
  have hk1 := hk.1
  cases b0 with
  | true =>
    have hd1' := hd1 rfl
    clear hd1
    obtain ⟨ws, q, c2, hw⟩ : ∃ ws q c, dws s a (b : Nat) [] = (ws, q, c) := ⟨_, _, _, rfl⟩
    have HGW := fun w => Lib.hid (getwords_any s a b w hs (by omega) hbs hw)
    by_cases hc2 : c2 = 0
    · subst hc2
      obtain ⟨rest, m, f1, f2, f3, f4, f5, f6, f7, f8⟩ := dws_zero s a b [] ws q hbs hw Asc.nil
      rw [List.nil_append] at f1
      subst f1
      subst f3
      obtain ⟨u, c3, hu⟩ : ∃ u c, unpackR (s.extract m s.size) n (wdt a : Nat) = (u, c) := ⟨_, _, rfl⟩
      have HUN := fun w => Lib.hid (bunpack_eq (s.extract m s.size) n (wdt a : Nat) w hu)
      have HIW := fun w => Lib.hid (show Calls Try.prog 35 #[.int .i64 (ws.length : Int)] w (Ret (.int .i64 (wdt a : Nat)) w) by
        have hi := iwidth_any ws.length w (by omega)
        rwa [show wdt ws.length = wdt a by rw [f2]] at hi)
      have hwd := wdt_le (k := a) (by omega)
      by_cases hc3 : c3 = 0
      · subst hc3
        obtain ⟨u1, u2, _⟩ := unpack_zero hn (show wdt a ≤ 64 by omega) hu
        have hul : u.length ≤ 4096 := by omega
        have hu64 : ∀ x ∈ u, x < 2 ^ 64 := fun x hx => Nat.lt_of_lt_of_le (u2 x hx) (Nat.pow_le_pow_right (by decide) (by omega))
        have HLK := fun v1 v2 w h1 h2 => Lib.hid (lookup_any v1 v2 ws u w h1 h2 (by omega) hul hu64 (l := (lkR ws u).1) (c := (lkR ws u).2) rfl)
        rw [decD_l hn hg hk hw hu]
        clear f2 f4 f6 f7 f8 hw hu hg u1 u2 hul hu64 hwd
        generalize lkR ws u = R at *
        generalize wdt a = d at *
        go_enter Try.func20, Try.ntmps20
        go_wp2_with (first
          | (go_at_call 32; (with_reducible refine (HG _).out.mono ?_); rintro e w' ⟨rfl, rfl⟩)
          | (go_at_call 33; (with_reducible refine (HGW _).out.mono ?_); rintro e w4 ⟨v4, rfl, hown4, hb4⟩; obtain ⟨A4, k4, _, rfl, rfl, hk4, hk5⟩ := hown4.read.bds))
        have hr4 : RdV Value.string w4.drew w4.drew.heap.size (.slice A4 ws.length k4) ws := hown4.read
        clear hown4
        go_region_with (first
          | (go_at_call 35; (with_reducible refine (HIW _).out.mono ?_); rintro e w' ⟨rfl, rfl⟩)
          | (go_at_call 34; (with_reducible refine (HUN _).out.mono ?_); rintro e w5 ⟨v5, rfl, hown5, hb5⟩))
        all_goals have hr5 := hr4.step hb5
        all_goals have hru := hown5.read
        all_goals clear hr4 hown5
        all_goals go_wp2_with (go_at_call 36; (with_reducible refine (HLK _ _ _ hr5 hru).out.mono ?_); rintro e w6 ⟨v6, rfl, hown6, hb6⟩)
        all_goals go_ret2
        all_goals have hbb := bel_trans hb4.drew hb5
        all_goals exact RetVE.mk rfl (hown6.lower hbb.size) (bel_trans hbb hb6)
      · rw [decD_u hn hg hk hw hu hc3]
        have hdc : ((c3 : Int) != 0) = true := by simp; omega
        clear f2 f4 f6 f7 f8 hw hu hg hwd hc3
        generalize wdt a = d at *
        go_enter Try.func20, Try.ntmps20
        go_wp2_with (first
          | (go_at_call 32; (with_reducible refine (HG _).out.mono ?_); rintro e w' ⟨rfl, rfl⟩)
          | (go_at_call 33; (with_reducible refine (HGW _).out.mono ?_); rintro e w4 ⟨v4, rfl, hown4, hb4⟩; obtain ⟨A4, k4, _, rfl, rfl, hk4, hk5⟩ := hown4.read.bds))
        go_region_with (first
          | (go_at_call 35; (with_reducible refine (HIW _).out.mono ?_); rintro e w' ⟨rfl, rfl⟩)
          | (go_at_call 34; (with_reducible refine (HUN _).out.mono ?_); rintro e w5 ⟨v5, rfl, hown5, hb5⟩))
        all_goals go_wp2_with fail
        all_goals go_ret2
        all_goals exact RetVE.mk rfl (OwnV.nil _ _ _ _) (bel_trans hb4.drew hb5)
    · rw [decD_w hn hg hk hw hc2]
      have hdc : ((c2 : Int) != 0) = true := by simp; omega
      clear hw hg hc2
      go_enter Try.func20, Try.ntmps20
      go_wp2_with (first
        | (go_at_call 32; (with_reducible refine (HG _).out.mono ?_); rintro e w' ⟨rfl, rfl⟩)
        | (go_at_call 33; (with_reducible refine (HGW _).out.mono ?_); rintro e w4 ⟨v4, rfl, hown4, hb4⟩))
      go_ret2
      exact RetVE.mk rfl (OwnV.nil _ _ _ _) hb4
  | false =>
    clear hd1
    obtain ⟨ws, q, c2, hw⟩ : ∃ ws q c, dws s a (b : Nat) [] = (ws, q, c) := ⟨_, _, _, rfl⟩
    have HGW := fun w => Lib.hid (getwords_any s a b w hs (by omega) hbs hw)
    by_cases hc2 : c2 = 0
    · subst hc2
      obtain ⟨rest, m, f1, f2, f3, f4, f5, f6, f7, f8⟩ := dws_zero s a b [] ws q hbs hw Asc.nil
      rw [List.nil_append] at f1
      subst f1
      subst f3
      obtain ⟨u, c3, hu⟩ : ∃ u c, unpackR (s.extract m s.size) n (wdt a : Nat) = (u, c) := ⟨_, _, rfl⟩
      have HUN := fun w => Lib.hid (bunpack_eq (s.extract m s.size) n (wdt a : Nat) w hu)
      have HIW := fun w => Lib.hid (show Calls Try.prog 35 #[.int .i64 (ws.length : Int)] w (Ret (.int .i64 (wdt a : Nat)) w) by
        have hi := iwidth_any ws.length w (by omega)
        rwa [show wdt ws.length = wdt a by rw [f2]] at hi)
      have hwd := wdt_le (k := a) (by omega)
      by_cases hc3 : c3 = 0
      · subst hc3
        obtain ⟨u1, u2, _⟩ := unpack_zero hn (show wdt a ≤ 64 by omega) hu
        have hul : u.length ≤ 4096 := by omega
        have hu64 : ∀ x ∈ u, x < 2 ^ 64 := fun x hx => Nat.lt_of_lt_of_le (u2 x hx) (Nat.pow_le_pow_right (by decide) (by omega))
        have HLK := fun v1 v2 w h1 h2 => Lib.hid (lookup_any v1 v2 ws u w h1 h2 (by omega) hul hu64 (l := (lkR ws u).1) (c := (lkR ws u).2) rfl)
        rw [decD_l hn hg hk hw hu]
        clear f2 f4 f6 f7 f8 hw hu hg u1 u2 hul hu64 hwd
        generalize lkR ws u = R at *
        generalize wdt a = d at *
        go_enter Try.func20, Try.ntmps20
        go_wp2_with (first
          | (go_at_call 32; (with_reducible refine (HG _).out.mono ?_); rintro e w' ⟨rfl, rfl⟩)
          | (go_at_call 33; (with_reducible refine (HGW _).out.mono ?_); rintro e w4 ⟨v4, rfl, hown4, hb4⟩; obtain ⟨A4, k4, _, rfl, rfl, hk4, hk5⟩ := hown4.read.bds))
        have hr4 : RdV Value.string w4.drew w4.drew.heap.size (.slice A4 ws.length k4) ws := hown4.read
        clear hown4
        go_region_with (first
          | (go_at_call 35; (with_reducible refine (HIW _).out.mono ?_); rintro e w' ⟨rfl, rfl⟩)
          | (go_at_call 34; (with_reducible refine (HUN _).out.mono ?_); rintro e w5 ⟨v5, rfl, hown5, hb5⟩))
        all_goals have hr5 := hr4.step hb5
        all_goals have hru := hown5.read
        all_goals clear hr4 hown5
        all_goals go_wp2_with (go_at_call 36; (with_reducible refine (HLK _ _ _ hr5 hru).out.mono ?_); rintro e w6 ⟨v6, rfl, hown6, hb6⟩)
        all_goals go_ret2
        all_goals have hbb := bel_trans hb4.drew hb5
        all_goals exact RetVE.mk rfl (hown6.lower hbb.size) (bel_trans hbb hb6)
      · rw [decD_u hn hg hk hw hu hc3]
        have hdc : ((c3 : Int) != 0) = true := by simp; omega
        clear f2 f4 f6 f7 f8 hw hu hg hwd hc3
        generalize wdt a = d at *
        go_enter Try.func20, Try.ntmps20
        go_wp2_with (first
          | (go_at_call 32; (with_reducible refine (HG _).out.mono ?_); rintro e w' ⟨rfl, rfl⟩)
          | (go_at_call 33; (with_reducible refine (HGW _).out.mono ?_); rintro e w4 ⟨v4, rfl, hown4, hb4⟩; obtain ⟨A4, k4, _, rfl, rfl, hk4, hk5⟩ := hown4.read.bds))
        go_region_with (first
          | (go_at_call 35; (with_reducible refine (HIW _).out.mono ?_); rintro e w' ⟨rfl, rfl⟩)
          | (go_at_call 34; (with_reducible refine (HUN _).out.mono ?_); rintro e w5 ⟨v5, rfl, hown5, hb5⟩))
        all_goals go_wp2_with fail
        all_goals go_ret2
        all_goals exact RetVE.mk rfl (OwnV.nil _ _ _ _) (bel_trans hb4.drew hb5)
    · rw [decD_w hn hg hk hw hc2]
      have hdc : ((c2 : Int) != 0) = true := by simp; omega
      clear hw hg hc2
      go_enter Try.func20, Try.ntmps20
      go_wp2_with (first
        | (go_at_call 32; (with_reducible refine (HG _).out.mono ?_); rintro e w' ⟨rfl, rfl⟩)
        | (go_at_call 33; (with_reducible refine (HGW _).out.mono ?_); rintro e w4 ⟨v4, rfl, hown4, hb4⟩))
      go_ret2
      exact RetVE.mk rfl (OwnV.nil _ _ _ _) hb4
set_option maxRecDepth 100000 in
set_option maxHeartbeats 1000000 in
theorem decode_any (n : Int) (w : World) :
    Calls Try.prog 20 #[.string s, .int .i64 n] w (RetVE Value.string 9 (decD s n).1 (decD s n).2 w) := by
  by_cases h0 : n < 0
  · rw [decD_out (by omega)]
    have hd0 : decide (n < 0) = true := decide_eq_true h0
    go_enter Try.func20, Try.ntmps20
    go_wp2
    go_ret2
    exact RetVE.mk rfl (OwnV.nil _ _ _ _) (Below.refl _ _)
  by_cases h1 : 4096 < n
  · rw [decD_out (by omega)]
    have hd0 : decide (n < 0) = false := decide_eq_false h0
    have hd1 : decide (4096 < n) = true := decide_eq_true h1
    go_enter Try.func20, Try.ntmps20
    go_wp2
    go_ret2
    exact RetVE.mk rfl (OwnV.nil _ _ _ _) (Below.refl _ _)
  obtain ⟨n, rfl⟩ := Int.eq_ofNat_of_zero_le (show 0 ≤ n by omega)
  have hn : n ≤ 4096 := by omega
  clear h0 h1
  obtain ⟨a, b, c, hg⟩ : ∃ a b c, getR s 0 = (a, b, c) := ⟨_, _, _, rfl⟩
  by_cases hc : c = 0
  · subst hc
    obtain ⟨k, m, e1, e2, e3, e4, e5, e6⟩ := getR_zero hg
    obtain ⟨b, rfl⟩ : ∃ b' : Nat, b = b' := ⟨k + m, by omega⟩
    by_cases hk : a ≤ n ∧ (a = 0 → n = 0)
    · rcases Nat.eq_zero_or_pos a with h0 | h0
      · exact decode_in s hs n a b w hn hg (by omega) hk true (by simp; omega) (fun _ => by have := hk.2 h0; omega)
      · exact decode_in s hs n a b w hn hg (by omega) hk false (by simp; omega) (fun h => by cases h)
    · clear e1 e2 e3 e4 e5 e6
      rw [decD_k hn hg (by omega)]
      have HG := fun w => Lib.hid (vget_ok s 0 w (by unfold maxLen; omega) hg)
      by_cases hna : n < a
      · have hna' : (n : Int) < (a : Int) := by omega
        clear hg hk
        go_enter Try.func20, Try.ntmps20
        go_wp2_with (go_at_call 32; (with_reducible refine (HG _).out.mono ?_); rintro e w' ⟨rfl, rfl⟩)
        go_ret2
        exact RetVE.mk rfl (OwnV.nil _ _ _ _) (Below.refl _ _)
      · have ha0 : a = 0 := by omega
        have hn0 : 0 < n := by omega
        subst ha0
        clear hg hk hna
        go_enter Try.func20, Try.ntmps20
        go_wp2_with (go_at_call 32; (with_reducible refine (HG _).out.mono ?_); rintro e w' ⟨rfl, rfl⟩)
        go_ret2
        exact RetVE.mk rfl (OwnV.nil _ _ _ _) (Below.refl _ _)
  · rw [decD_e hn hg hc]
    have HG := fun w => Lib.hid (vget_is s 0 w (by unfold maxLen; omega) hg)
    have hdc : ((c : Int) != 0) = true := by simp; omega
    clear hg hc
    go_enter Try.func20, Try.ntmps20
    go_wp2_with (go_at_call 32; (with_reducible refine (HG _).out.mono ?_); rintro e w' ⟨rfl, rfl⟩)
    go_ret2
    exact RetVE.mk rfl (OwnV.nil _ _ _ _) (Below.refl _ _)
end
end Go.Proofs.Ytikokmafofbofaa
