/- The walk over the reference's reading of differences. -/
import Derived.Test.YtbolbbngncnecaaGreatGL
import Derived.Test.YtbolbbngncnecaaGreatDltW6
import Derived.Deep.RegionLaw
namespace Go.VB
open Go.RowKit
theorem step_callRet {P : Program} {ops : Array Oper} {o : Oper} {a : Act} {w : World} {K : Act → World → Prop} {Q : Exit → Act → World → Prop} {E : Prop}
    (hg : o.guard = none) (f : FuncId) (x : Operand) (t : TypeId) (hop : o.op = Op.call { callee := Callee.value (.func f), args := #[x], argTypes := #[t] })
    (fn : Func) (hf : P.funcs[f]? = some fn) (hn : (fn.name == "runtime.NumGoroutine") = false) (hb : fn.body.isSome = true) (v : Value) (h : Calls P f #[a.eval x] w (Ret v w)) (hK : K (a.put o.dst v) w) :
    if Region.wanted o (yielded ops a.tmps) = true then Oper.wp P o a w K Q else E := by
  have hw : Region.wanted o (yielded ops a.tmps) = true := by simp [Region.wanted, hg]
  have hn2 : ¬ fn.name = "runtime.NumGoroutine" := by simpa using hn
  have hb2 : ¬ fn.body = none := fun e => by rw [e] at hb; cases hb
  have hev : a.eval (Operand.func f) = .func (.func f) #[] #[] := rfl
  rw [if_pos hw]
  unfold Oper.wp
  simp [execOp, hop, resolve, Deferred.ofValue, invoke, callFunc, Result.andThen, Oper.upon, hev, hf, hn2, hb2]
  refine Calls.mono h ?_
  rintro e w' ⟨rfl, rfl⟩
  exact hK
/-- []T{x}. -/
theorem OwnV.one {α : Type} (f : α → Value) (x : α) (e : TypeId) (w : World) (base : Nat) (hb : base ≤ w.heap.size) : OwnV f e (w.alloc (.cells #[f x] e)) base (.slice (some ⟨w.heap.size, 0, none⟩) 1 1) [x] :=
  World.ownsRow_lit (base := base) (e := e) (size := 1) w #[f x] 1 hb (by decide) rfl
/-- Numbers without sign and with sign lie in different blocks. -/
theorem OwnN.apart {w : World} {base base' : Nat} {vu v : Value} {e e' : TypeId} {u : List Nat} {l : List Int} (h : OwnN .u64 e w base vu u) (hr : OwnV (Value.int .i64) e' w base' v l) (hu : u ≠ []) (hl : l ≠ []) : vu.ownBlock ≠ v.ownBlock := by
  rcases OwnN.forms h with ⟨_, h0⟩ | ⟨g, c, rfl, h1⟩
  · exact absurd h0 hu
  rcases OwnV.forms hr with ⟨_, h0⟩ | ⟨g', c', rfl, h2⟩
  · exact absurd h0 hl
  simp only [Value.ownBlock]
  intro he
  have hg : g = g' := Option.some.inj he
  subst hg
  have hu0 : 0 < u.length := List.length_pos_iff.2 hu
  have hl0 : l[0]? = some (l[0]'(List.length_pos_iff.2 hl)) := List.getElem?_eq_getElem _
  have c1 := h1.cell 0 hu0
  have c2 := h2.cell 0 _ hl0
  rw [c1] at c2
  simp at c2
theorem OwnN.keep {w w' : World} {base : Nat} {vu : Value} {e : TypeId} {u : List Nat} {k : IntKind} {row : Option Nat} (h : OwnN k e w base vu u) (hg : w.grownBy w' row) (hne : vu.ownBlock ≠ row) : OwnN k e w' base vu u :=
  World.ownsRow.kept h hg (.inr hne)
end Go.VB
namespace Go.DL
open Go.RowKit Go.VB Go.VarM Go.BP Go.RL
theorem add3 (y m : Int) (o : Nat) : wrap64 (wrap64 (y + m) + wrap64 (o : Int)) = wrap64 (y + (m + (o : Int))) := by unfold wrap64; omega
theorem okO_iff {u : List Nat} {k : Nat} {m : Int} {R : Nat} (hne : u ≠ []) (hm : -9223372036854775808 ≤ m ∧ m ≤ 9223372036854775807) (hR : (9223372036854775807 - m).toNat = R) : okO u k m ↔ (0 ∈ u ∧ wmx u = k ∧ ∀ x ∈ u, x ≤ R) := by
  unfold okO
  rw [lo_zero hne, wmx_all hne]
  refine and_congr_right fun _ => and_congr_right fun _ => ⟨fun h x hx => ?_, fun h => ?_⟩
  · have := gr_ge hx; omega
  · have := h _ (gr_in hne); omega
theorem zero_eq (x : Nat) : ((x : Int) == 0) = decide (x = 0) := by rw [Bool.eq_iff_iff, beq_iff_eq, decide_eq_true_iff]; omega
theorem mem_snoc {u : List Nat} {j x : Nat} (h : u[j]? = some x) (b : Bool) (hb : b = decide (0 ∈ u.take j)) : (b || decide (x = 0)) = decide (0 ∈ u.take (j + 1)) := by
  rw [hb, take_snocN h, Bool.eq_iff_iff, Bool.or_eq_true, decide_eq_true_iff, decide_eq_true_iff, decide_eq_true_iff, List.mem_append, List.mem_singleton]
  exact or_congr_right ⟨fun e => e.symm, fun e => e.symm⟩
end Go.DL
namespace Go.Proofs.YtbolbbngncnecaaGreat
open Go.RowKit Go.VB Go.VarM Go.BP Go.RL Go.DL
set_option maxRecDepth 100000 in
set_option maxHeartbeats 8000000 in
theorem rddecode_any (s : ByteArray) (n : Int) (w : World) (hs : s.size ≤ 140737488351232) :
    Calls Tryz.prog 97 #[.string s, .int .i64 n] w (RetVE (Value.int .i64) 2 (decX s n).1 (decX s n).2 w) := by
  have hsz0 := fun w => rsz_any n w
  by_cases hn : n < 0 ∨ 4096 < n
  · rw [decX_out hn]
    rw [decide_eq_false (by omega)] at hsz0
    have HSZ := fun w => Lib.hid (hsz0 w)
    clear hsz0 hn
    go_enter Tryz.func97, Tryz.ntmps97
    go_wp2_with (go_at_call 92; (with_reducible refine (HSZ _).out.mono ?_); rintro e w' ⟨rfl, rfl⟩)
    go_ret2
    exact RetVE.mk rfl (OwnV.nil _ _ _ _) (Below.refl _ _)
  rw [decide_eq_true (by omega)] at hsz0
  have HSZ := fun w => Lib.hid (hsz0 w)
  clear hsz0
  by_cases h0 : n = 0
  · subst h0
    clear hn
    by_cases h : s.size = 0
    · rw [decX_nil h]
      have hs : s.data.toList = [] := List.eq_nil_of_length_eq_zero (by rw [size_list]; exact h)
      obtain rfl : s = ⟨#[]⟩ := ByteArray.ext (Array.ext' hs)
      clear hs h
      go_enter Tryz.func97, Tryz.ntmps97
      go_wp2_with (go_at_call 92; (with_reducible refine (HSZ _).out.mono ?_); rintro e w' ⟨rfl, rfl⟩)
      go_ret2
      exact RetVE.mk rfl (OwnV.nil _ _ _ _) (Below.refl _ _)
    · rw [decX_some h]
      have hn := text_some h
      go_enter Tryz.func97, Tryz.ntmps97
      go_wp2_with (go_at_call 92; (with_reducible refine (HSZ _).out.mono ?_); rintro e w' ⟨rfl, rfl⟩)
      go_ret2
      exact RetVE.mk rfl (OwnV.nil _ _ _ _) (Below.refl _ _)
  obtain ⟨n, rfl⟩ : ∃ k : Nat, n = k := ⟨n.toNat, by omega⟩
  have hn' : n ≤ 4096 := by omega
  have hn1 : 1 ≤ n := by omega
  have hmx : s.size ≤ maxLen := by unfold maxLen; omega
  have hd1 : ((n : Int) == 0) = false := beq_eq_false_iff_ne.2 (by omega)
  clear hn
  obtain ⟨a, b, e, hg⟩ : ∃ a b e, getR s 0 = (a, b, e) := ⟨_, _, _, rfl⟩
  by_cases he : e = 0
  · subst he
    obtain ⟨p, hp, ha⟩ : ∃ p : Nat, b = p ∧ a < 18446744073709551616 := by
      obtain ⟨k, m, _, h2, _, h3, _, h4⟩ := getR_zero hg
      exact ⟨k + m, by omega, h4⟩
    subst hp
    rw [decX_go hn' (by omega) hg]
    have HG := Lib.hid (rget_ok s 0 w hmx hg)
    have HZ := fun w => Lib.hid (rzag_any a w (by omega) (by omega))
    clear hg h0 ha
    generalize zagN (a : Int) = z at *
    have hone := OwnV.one (Value.int .i64) z 2 w w.heap.size (Nat.le_refl _)
    have hb0 : Below w.heap.size w (w.alloc (.cells #[.int .i64 z] 2)) := (Below.refl _ _).alloc (Nat.le_refl _) _
    generalize hR : decB s (n - 1) p [z] = R
    have HR := Lib.hid hR; clear hR
    go_enter Tryz.func97, Tryz.ntmps97
    go_wp2_with (first
      | (go_at_call 92; (with_reducible refine (HSZ _).out.mono ?_); rintro e w' ⟨rfl, rfl⟩)
      | (go_at_call 63; (with_reducible refine HG.out.mono ?_); rintro e w' ⟨rfl, rfl⟩)
      | (go_at_call 117; (with_reducible refine (HZ _).out.mono ?_); rintro e w' ⟨rfl, rfl⟩))
    go_loopw [7, 9] (fun a v wr => ∃ (p : Nat) (ls : List Int), a = .int .i64 p ∧ OwnV (Value.int .i64) 2 wr w.heap.size v ls ∧ 1 ≤ ls.length ∧ ls.length ≤ n ∧ decB s (n - ls.length) p ls = R ∧ Below w.heap.size w wr) (fun _ v _ => n - lenS v)
    case atStart => exact ⟨p, [z], rfl, hone, Nat.le_refl _, hn1, HR.out, hb0⟩
    case round =>
      clear hone hb0 HR HG HZ HSZ
      obtain ⟨p, ls, rfl, hown, hl1, hln, hdec, hbel⟩ := hrel
      have HD := Lib.hid hdec; clear hdec
      obtain ⟨A, cc, _, rfl, rfl, hc1, hc2⟩ := hown.read.bds
      by_cases hlt : ls.length < n
      · obtain ⟨m0, hm⟩ : ∃ m, n = ls.length + m := ⟨n - ls.length, by omega⟩
        have hmi : (n : Int) - (ls.length : Int) = (m0 : Int) := by omega
        have hm0 : 1 ≤ m0 := by omega
        have hmm : n - ls.length = m0 := by omega
        rw [hmm] at HD
        have HM := Lib.hid hm
        clear hm hmm
        obtain ⟨a, b, e, hg⟩ : ∃ a b e, getR s p = (a, b, e) := ⟨_, _, _, rfl⟩
        by_cases h32 : m0 < 32
        · have hcm : min m0 32 = m0 := by omega
          by_cases he : e = 0
          · subst he
            obtain ⟨q, hq, hqs, ha⟩ : ∃ q : Nat, b = q ∧ q ≤ s.size ∧ a < 18446744073709551616 := by
              obtain ⟨k, m, _, h2, _, h3, _, h4⟩ := getR_zero hg
              exact ⟨k + m, by omega, h3, h4⟩
            subst hq
            have HG := Lib.hid (rget_ok s p wr hmx hg)
            by_cases hb : q < s.size
            · have hbn := get_bN s q hb
              have hb256 := bN_lt s q
              by_cases hw : bN s q ≤ 64
              · obtain ⟨k, hk⟩ : ∃ k, bN s q = k := ⟨_, rfl⟩
                rw [hk] at hw hbn hb256
                obtain ⟨nb, hnb⟩ : ∃ nb, (m0 * k + 7) / 8 = nb := ⟨_, rfl⟩
                have hnn : needN (m0:Int) (k : Int) = (nb : Int) := by
                  rw [← hnb]; exact needN_in (n := m0) (by omega) hw
                have hn8 : nb ≤ 8 * m0 := by rw [← hnb]; exact need8 hw
                have HN : ∀ w, Hid (Calls Tryz.prog 91 #[.int .i64 (m0:Int), .int .i64 (k : Int)] w (Ret (.int .i64 (nb : Int)) w)) := fun w => by
                  have := rneed_any (m0:Int) (k : Int) w
                  rw [hnn] at this
                  exact Lib.hid this
                clear hnn
                by_cases hsz : q + 1 + nb ≤ s.size
                · have hps := pk_size hsz
                  have hx : s.extract (q + 1) (q + 1 + nb) = pk s q nb := rfl
                  have hz := zag_bd (v := (a : Int)) (by omega) (by omega)
                  have HZ := fun w => Lib.hid (rzag_any a w (by omega) (by omega))
                  by_cases hr : num (pk s q nb) < 2 ^ (m0 * k)
                  · have hul := digs_len k m0 (num (pk s q nb))
                    have hu := digs_lt k m0 (num (pk s q nb))
                    have HUN := fun w => Lib.hid (runpack_eq (pk s q nb) (m0:Int) (k : Int) w (unpackR_ok (n := m0) (w := k) (by omega) hw (by rw [hps, hnb]) hr))
                    have HNO := fun (ho : ¬ okO (digs k m0 (num (pk s q nb))) k (zagN a)) => (decB_e (l := ls) (by omega) hcm (getB_off (c := m0) hg hb hk hw hnb hsz hr rfl ho) (by decide)).symm.trans HD.out
                    have HOK := fun (ho : okO (digs k m0 (num (pk s q nb))) k (zagN a)) => (decB_go (l := ls) (by omega) hcm (getB_ok (c := m0) hg hb hk hw hnb hsz hr rfl ho)).symm.trans HD.out
                    generalize digs k m0 (num (pk s q nb)) = u at *
                    generalize pk s q nb = S at *
                    generalize zagN (a : Int) = m at *
                    have h2k : (2 : Nat) ^ k ≤ 18446744073709551616 := by
                      have := Nat.pow_le_pow_right (n := 2) (by decide) hw
                      simpa using this
                    have hu64 : ∀ x ∈ u, x < 18446744073709551616 := fun x hx => Nat.lt_of_lt_of_le (hu x hx) h2k
                    have hune : u ≠ [] := List.ne_nil_of_length_pos (by omega)
                    obtain ⟨Rm, hRm⟩ : ∃ Rm : Nat, (9223372036854775807 - m).toNat = Rm := ⟨_, rfl⟩
                    have hRw : IntKind.u64.wrap (9223372036854775807 - IntKind.u64.wrap m) = (Rm : Int) := by rw [IntKind.wrap_u64, IntKind.wrap_u64]; omega
                    have hRb : Rm < 18446744073709551616 := by omega
                    have hok := okO_iff (k := k) hune hz hRm
                    replace HNO := fun h => HNO (mt hok.1 h)
                    replace HOK := fun h => HOK (hok.2 h)
                    have HRW0 := Lib.hid hRw; clear hRw
                    have HX := Lib.hid hx; have HNO' := Lib.hid HNO; have HOK' := Lib.hid HOK; have H64 := Lib.hid hu64; have HUL := Lib.hid hul; have HUE := Lib.hid hune
                    have hul2 : u.length ≤ m0 ∧ m0 ≤ u.length := by omega
                    clear HNO HOK hx hu64 hul hune hok hu h2k hps hr hg hk hnb hRm HD
                    have hszr := hbel.size
                    go_wp2_with (first
                      | (go_at_call 63; (with_reducible refine HG.out.mono ?_); rintro e w' ⟨rfl, rfl⟩)
                      | (go_at_call 91; (with_reducible refine (HN _).out.mono ?_); rintro e w' ⟨rfl, rfl⟩))
                    rw [HX.out]
                    refine (HUN _).out.mono ?_; rintro e w1 ⟨v1, rfl, hown1, hb1⟩
                    rcases OwnN.forms hown1 with ⟨_, h0⟩ | ⟨gd, cd, rfl, hrow1⟩
                    · exact absurd h0 HUE.out
                    obtain ⟨_, _, hv1, hcd1, hcd2, -⟩ := OwnN.read hown1
                    cases hv1
                    unfold maxLen at hcd2
                    have hown' := hown.below hb1
                    have hbel' := hbel.trans (hb1.mono hbel.size)
                    clear hown hbel hrow1 hb1 HUN HX HG HN
                    have hRw := HRW0.out
                    go_wp2_with (go_at_call 117; (with_reducible refine (HZ _).out.mono ?_); rintro e w' ⟨rfl, rfl⟩)
                    clear hRw
                    go_loopw [9, 17, 18, 100] (fun v zb y i wk => ∃ (L : List Int) (b : Bool) (Y j : Nat), zb = .bool b ∧ y = .int .i64 Y ∧ i = .int .i64 j ∧ j ≤ u.length ∧ OwnV (Value.int .i64) 2 wk w.heap.size v L ∧ L = acc ls ((u.take j).map fun o : Nat => m + (o : Int)) ∧ b = decide (0 ∈ u.take j) ∧ Y = wmx (u.take j) ∧ (∀ x ∈ u.take j, x ≤ Rm) ∧ OwnN .u64 47 wk wr.heap.size (.slice (some ⟨gd, 0, none⟩) u.length cd) u ∧ Below w.heap.size w wk) (fun _ _ _ i _ => u.length - (intOf i).toNat)
                    case atStart => exact ⟨ls, false, 0, 0, rfl, rfl, rfl, Nat.zero_le _, hown', rfl, by simp, rfl, by simp, hown1, hbel'⟩
                    case round =>
                      clear hown' hown1 hbel'
                      obtain ⟨L, b, Y, j, rfl, rfl, rfl, hj, hownL, hL, hb0, hY, hall, hownd, hbelk⟩ := hrel
                      have hLl : L.length = ls.length + j := by
                        rw [hL, acc_len, List.length_map, List.length_take]; omega
                      have hLn : L.length ≤ ls.length + j ∧ ls.length + j ≤ L.length := by omega
                      have hYb : Y ≤ 64 := by rw [hY]; exact wmx_le H64.out _
                      have HL := Lib.hid hL; have HB0 := Lib.hid hb0; have HY := Lib.hid hY; have HALL := Lib.hid hall
                      clear hL hb0 hY hall hLl
                      have hLne : L ≠ [] := List.ne_nil_of_length_pos (by omega)
                      have hap := hownd.apart hownL HUE.out hLne
                      rcases hownL.forms with ⟨_, h0⟩ | ⟨gL, cL, rfl, hrowL⟩
                      · exact absurd h0 hLne
                      obtain ⟨_, _, hv1, hcL1, hcL2, -⟩ := hownL.read
                      cases hv1
                      unfold maxLen at hcL2
                      by_cases hjl : j < u.length
                      · have hgx : wr.cell? ⟨gd, j, none⟩ = some (.int .u64 (u.getD j 0 : Nat)) := RowN.cell hownd j hjl
                        have hxj : u[j]? = some (u.getD j 0) := by rw [List.getD_eq_getElem?_getD, List.getElem?_eq_getElem hjl]; rfl
                        have hx64 := H64.out _ (List.mem_of_getElem? hxj)
                        generalize u.getD j 0 = x at *
                        by_cases hxR : x ≤ Rm
                        · have HMS := Lib.hid (mem_snoc hxj b HB0.out)
                          have HWS := Lib.hid (wmx_snoc hxj)
                          have HTS := Lib.hid (take_snocN hxj)
                          have HWD := fun w => Lib.hid (rwidth_any x w hx64)
                          have hwx := wid_64 hx64
                          obtain ⟨y0, hy0⟩ : ∃ y, L[L.length - 1]? = some y := ⟨_, List.getElem?_eq_getElem (by omega)⟩
                          have hgy := hrowL.cell _ _ hy0
                          have HLA := Lib.hid (last_of hy0)
                          have hL1 : 1 ≤ L.length := by omega
                          obtain ⟨r, hr⟩ : ∃ r, L.length - 1 = r := ⟨_, rfl⟩
                          rw [hr] at hgy
                          have hrL : r < L.length := by omega
                          have hrw : IntKind.i64.wrap ((L.length : Int) - 1) = (r : Int) := by rw [wrap_eq, wrap_in (by omega)]; omega
                          have HRW := Lib.hid hrw
                          clear hr hrw
                          have hL4 : L.length + 1 ≤ 5000 := by have := HM.out; omega
                          have hszk := hbelk.size
                          have hc1' : L.length + 1 ≤ maxLen := by unfold maxLen; omega
                          have hc2' : (L.length + 1) * 8 ≤ 140737488355328 := by omega
                          have HC1 := Lib.hid hc1'; have HC2 := Lib.hid hc2'
                          clear hc1' hc2'
                          obtain ⟨V, hV⟩ : ∃ V, wrap64 (y0 + (m + (x : Int))) = V := ⟨_, rfl⟩
                          have hV1 : wrap64 (wrap64 (y0 + m) + wrap64 (x : Int)) = V := (add3 y0 m x).trans hV
                          have hV2 : IntKind.i64.wrap (IntKind.i64.wrap (y0 + m) + IntKind.i64.wrap (x : Int)) = V := by rw [wrap_eq, wrap_eq, wrap_eq]; exact hV1
                          have HV := Lib.hid hV; have HV1 := Lib.hid hV1; have HV2 := Lib.hid hV2
                          have HAP := Lib.hid hap
                          have hLV : L ++ [V] = acc ls ((u.take (j + 1)).map fun o : Nat => m + (o : Int)) := by
                            rw [HTS.out, List.map_append, acc_app, ← HL.out]
                            show _ = L ++ [wrap64 (L.getLastD 0 + (m + (x : Int)))]
                            rw [HLA.out, hV]
                          have HLV := Lib.hid hLV
                          have HALL2 := Lib.hid (show ∀ x' ∈ u.take (j + 1), x' ≤ Rm from fun x' hx' => by
                            rw [HTS.out] at hx'
                            rcases List.mem_append.1 hx' with h | h
                            · exact HALL.out x' h
                            · rw [List.mem_singleton.1 h]; exact hxR)
                          have HC3 := Lib.hid (hbelk.alloc hszk (.cells #[.int .i64 V] 2)).drew.size
                          have HRD1 : Hid (RdV (Value.int .i64) (wr.alloc (.cells #[.int .i64 V] 2)).drew (wr.heap.size + 1) (.slice (some ⟨wr.heap.size, 0, none⟩) 1 1) [V]) := Lib.hid (RdV.one (Value.int .i64) wr V 1 2 (by decide) (by decide))
                          have HOW := Lib.hid (hownL.alloc (.cells #[.int .i64 V] 2)).drew
                          clear hxj hy0 hV hV1 hV2 hap hLne hLV
                          cases b
                          all_goals go_wp2_with (go_at_call 61; (with_reducible refine (HWD _).out.mono ?_); rintro e w' ⟨rfl, rfl⟩)
                          all_goals
                            have hV1 := HV1.out
                            have hV2 := HV2.out
                            have hrw := HRW.out
                            go_region_law (first
                              | (show (if Region.wanted ⟨some 130, _, _, _, _, _⟩ _ = true then _ else _); refine step_appV (f := Value.int .i64) (fun _ => rfl) (.int .i64 0) rfl rfl (.tmp 116) (.tmp 129) 70 rfl w.heap.size 2 8 Tryz.underlying70 Tryz.infI64 (.slice (some ⟨gL, 0, none⟩) L.length cL) L rfl HOW.out (wr.heap.size + 1) (.slice (some ⟨wr.heap.size, 0, none⟩) 1 1) V rfl HRD1.out HC1.out HC2.out HC3.out ?_; intro v' w' hown' hb' hg')
                              | (go_simp; go_at_call 117; (with_reducible refine (HZ _).out.mono ?_); rintro e w' ⟨rfl, rfl⟩))
                          all_goals
                            clear hV1 hV2 hrw
                            go_wp2_with fail
                            go_roundw
                            case rel => exact ⟨L ++ [V], _, max Y (wid x), j + 1, rfl, vint (by omega), by go_num, hjl, hown', HLV.out, (by first | exact HMS.out | (rw [zero_eq]; exact HMS.out)), by rw [HWS.out, HY.out], HALL2.out, (OwnN.drew (hownd.alloc _)).keep hg' HAP.out, (hbelk.alloc hszk _).drew.trans hb'⟩
                            case measure => simp [intOf] <;> omega
                        · have hxR' : Rm < x := by omega
                          have hmem := List.mem_of_getElem? hxj
                          have hR := HNO'.out (fun h => hxR (h.2.2 _ hmem))
                          have HRR := Lib.hid hR
                          clear hR hxR hmem hxj hap
                          go_wp2_with fail
                          go_ret2
                          rw [← HRR.out]
                          exact RetVE.mk rfl (OwnV.nil _ _ _ _) hbelk
                      · have htk : u.take j = u := List.take_of_length_le (by omega)
                        have hbz := HB0.out; have hyw := HY.out; have hal := HALL.out; have hLf := HL.out
                        rw [htk] at hbz hyw hal hLf
                        clear hap hLne htk
                        by_cases hok : b = true ∧ Y = k
                        · obtain ⟨hbt, hYk⟩ := hok
                          subst hbt
                          have hfin := HOK'.out ⟨of_decide_eq_true hbz.symm, hyw.symm.trans hYk, hal⟩
                          rw [← hLf, show m0 - m0 = n - L.length from by have := HM.out; omega] at hfin
                          have HFI := Lib.hid hfin
                          have hLn2 : 1 ≤ L.length ∧ L.length ≤ n := by have := HM.out; omega
                          have hd : ((Y : Int) != (k : Int)) = false := by rw [hYk]; exact bne_self_eq_false _
                          have HPQ := Lib.hid (show (q : Int) + 1 + (nb : Int) = ((q + 1 + nb : Nat) : Int) by omega)
                          clear hbz hyw hal hLf hfin hYk
                          go_wp2_with fail
                          go_roundw
                          case rel => exact ⟨q + 1 + nb, L, vint HPQ.out, hownL, hLn2.1, hLn2.2, HFI.out, hbelk⟩
                          case measure => simp only [lenS]; have := HM.out; omega
                        · have hR := HNO'.out (fun h => hok ⟨hbz.trans (decide_eq_true h.1), hyw.trans h.2.1⟩)
                          have HRR := Lib.hid hR
                          clear hR hbz hyw hal hLf
                          cases b with
                          | false =>
                            clear hok
                            go_wp2_with fail
                            go_ret2
                            rw [← HRR.out]
                            exact RetVE.mk rfl (OwnV.nil _ _ _ _) hbelk
                          | true =>
                            have hd : ((Y : Int) != (k : Int)) = true := bne_iff_ne.2 (fun e => hok ⟨rfl, by omega⟩)
                            clear hok
                            go_wp2_with fail
                            go_ret2
                            rw [← HRR.out]
                            exact RetVE.mk rfl (OwnV.nil _ _ _ _) hbelk
                  · have hR := HD.out
                    rw [decB_e (by omega) hcm (getB_rest hg hb hk hw hnb hsz hr) (by decide)] at hR
                    have HRR := Lib.hid hR
                    have HUN := fun w => Lib.hid (runpack_eq (pk s q nb) (m0:Int) (k : Int) w (unpackR_rest (n := m0) (w := k) (by omega) hw (by rw [hps, hnb]) hr))
                    have HX := Lib.hid hx
                    clear hR hg hcm hk hnb hr hps hx HZ hz
                    generalize pk s q nb = S at *
                    go_wp2_with (first
                      | (go_at_call 63; (with_reducible refine HG.out.mono ?_); rintro e w' ⟨rfl, rfl⟩)
                      | (go_at_call 91; (with_reducible refine (HN _).out.mono ?_); rintro e w' ⟨rfl, rfl⟩))
                    rw [HX.out]
                    refine (HUN _).out.mono ?_; rintro e w1 ⟨v1, rfl, _, hb1⟩
                    have hbel1 := hbel.trans (hb1.mono hbel.size)
                    clear hb1 HUN HX HG HN
                    go_wp2
                    go_ret2
                    rw [← HRR.out]
                    exact RetVE.mk rfl (OwnV.nil _ _ _ _) hbel1
                · have hR := HD.out
                  rw [decB_e (by omega) hcm (getB_short hg hb hk hw hnb (by omega)) (by decide)] at hR
                  have HRR := Lib.hid hR
                  have hd : ¬ ((q : Int) + 1 + (nb : Int) ≤ (s.size : Int)) := by omega
                  clear hR hg hcm hk hnb
                  go_wp2_with (first
                    | (go_at_call 63; (with_reducible refine HG.out.mono ?_); rintro e w' ⟨rfl, rfl⟩)
                    | (go_at_call 91; (with_reducible refine (HN _).out.mono ?_); rintro e w' ⟨rfl, rfl⟩))
                  go_ret2
                  rw [← HRR.out]
                  exact RetVE.mk rfl (OwnV.nil _ _ _ _) hbel
              · have hR := HD.out
                rw [decB_e (by omega) hcm (getB_w hg hb rfl (by omega)) (by decide)] at hR
                have HRR := Lib.hid hR
                clear hR hg hcm
                generalize bN s q = k at *
                go_wp2_with (go_at_call 63; (with_reducible refine HG.out.mono ?_); rintro e w' ⟨rfl, rfl⟩)
                go_ret2
                rw [← HRR.out]
                exact RetVE.mk rfl (OwnV.nil _ _ _ _) hbel
            · have hR := HD.out
              rw [decB_e (by omega) hcm (getB_end hg (by omega)) (by decide)] at hR
              have HRR := Lib.hid hR
              have hd : ((q : Int) == (s.size : Int)) = true := by rw [beq_iff_eq]; omega
              clear hR hg hcm
              go_wp2_with (go_at_call 63; (with_reducible refine HG.out.mono ?_); rintro e w' ⟨rfl, rfl⟩)
              go_ret2
              rw [← HRR.out]
              exact RetVE.mk rfl (OwnV.nil _ _ _ _) hbel
          · have hR := HD.out
            rw [decB_e (by omega) hcm (getB_e hg he) he] at hR
            have HRR := Lib.hid hR
            have HG := Lib.hid (rget_is s p wr hmx hg)
            have hd : ((e : Int) != 0) = true := by simp; omega
            clear hR hg hcm he
            go_wp2_with (go_at_call 63; (with_reducible refine HG.out.mono ?_); rintro e w' ⟨rfl, rfl⟩)
            go_ret2
            rw [← HRR.out]
            exact RetVE.mk rfl (OwnV.nil _ _ _ _) hbel
        · have hcm : min m0 32 = 32 := by omega
          by_cases he : e = 0
          · subst he
            obtain ⟨q, hq, hqs, ha⟩ : ∃ q : Nat, b = q ∧ q ≤ s.size ∧ a < 18446744073709551616 := by
              obtain ⟨k, m, _, h2, _, h3, _, h4⟩ := getR_zero hg
              exact ⟨k + m, by omega, h3, h4⟩
            subst hq
            have HG := Lib.hid (rget_ok s p wr hmx hg)
            by_cases hb : q < s.size
            · have hbn := get_bN s q hb
              have hb256 := bN_lt s q
              by_cases hw : bN s q ≤ 64
              · obtain ⟨k, hk⟩ : ∃ k, bN s q = k := ⟨_, rfl⟩
                rw [hk] at hw hbn hb256
                obtain ⟨nb, hnb⟩ : ∃ nb, (32 * k + 7) / 8 = nb := ⟨_, rfl⟩
                have hnn : needN 32 (k : Int) = (nb : Int) := by
                  rw [← hnb]; exact needN_in (n := 32) (by omega) hw
                have hn8 : nb ≤ 8 * 32 := by rw [← hnb]; exact need8 hw
                have HN : ∀ w, Hid (Calls Tryz.prog 91 #[.int .i64 32, .int .i64 (k : Int)] w (Ret (.int .i64 (nb : Int)) w)) := fun w => by
                  have := rneed_any 32 (k : Int) w
                  rw [hnn] at this
                  exact Lib.hid this
                clear hnn
                by_cases hsz : q + 1 + nb ≤ s.size
                · have hps := pk_size hsz
                  have hx : s.extract (q + 1) (q + 1 + nb) = pk s q nb := rfl
                  have hz := zag_bd (v := (a : Int)) (by omega) (by omega)
                  have HZ := fun w => Lib.hid (rzag_any a w (by omega) (by omega))
                  by_cases hr : num (pk s q nb) < 2 ^ (32 * k)
                  · have hul := digs_len k 32 (num (pk s q nb))
                    have hu := digs_lt k 32 (num (pk s q nb))
                    have HUN := fun w => Lib.hid (runpack_eq (pk s q nb) 32 (k : Int) w (unpackR_ok (n := 32) (w := k) (by omega) hw (by rw [hps, hnb]) hr))
                    have HNO := fun (ho : ¬ okO (digs k 32 (num (pk s q nb))) k (zagN a)) => (decB_e (l := ls) (by omega) hcm (getB_off (c := 32) hg hb hk hw hnb hsz hr rfl ho) (by decide)).symm.trans HD.out
                    have HOK := fun (ho : okO (digs k 32 (num (pk s q nb))) k (zagN a)) => (decB_go (l := ls) (by omega) hcm (getB_ok (c := 32) hg hb hk hw hnb hsz hr rfl ho)).symm.trans HD.out
                    generalize digs k 32 (num (pk s q nb)) = u at *
                    generalize pk s q nb = S at *
                    generalize zagN (a : Int) = m at *
                    have h2k : (2 : Nat) ^ k ≤ 18446744073709551616 := by
                      have := Nat.pow_le_pow_right (n := 2) (by decide) hw
                      simpa using this
                    have hu64 : ∀ x ∈ u, x < 18446744073709551616 := fun x hx => Nat.lt_of_lt_of_le (hu x hx) h2k
                    have hune : u ≠ [] := List.ne_nil_of_length_pos (by omega)
                    obtain ⟨Rm, hRm⟩ : ∃ Rm : Nat, (9223372036854775807 - m).toNat = Rm := ⟨_, rfl⟩
                    have hRw : IntKind.u64.wrap (9223372036854775807 - IntKind.u64.wrap m) = (Rm : Int) := by rw [IntKind.wrap_u64, IntKind.wrap_u64]; omega
                    have hRb : Rm < 18446744073709551616 := by omega
                    have hok := okO_iff (k := k) hune hz hRm
                    replace HNO := fun h => HNO (mt hok.1 h)
                    replace HOK := fun h => HOK (hok.2 h)
                    have HRW0 := Lib.hid hRw; clear hRw
                    have HX := Lib.hid hx; have HNO' := Lib.hid HNO; have HOK' := Lib.hid HOK; have H64 := Lib.hid hu64; have HUL := Lib.hid hul; have HUE := Lib.hid hune
                    have hul2 : u.length ≤ 32 ∧ 32 ≤ u.length := by omega
                    clear HNO HOK hx hu64 hul hune hok hu h2k hps hr hg hk hnb hRm HD
                    have hszr := hbel.size
                    go_wp2_with (first
                      | (go_at_call 63; (with_reducible refine HG.out.mono ?_); rintro e w' ⟨rfl, rfl⟩)
                      | (go_at_call 91; (with_reducible refine (HN _).out.mono ?_); rintro e w' ⟨rfl, rfl⟩))
                    rw [HX.out]
                    refine (HUN _).out.mono ?_; rintro e w1 ⟨v1, rfl, hown1, hb1⟩
                    rcases OwnN.forms hown1 with ⟨_, h0⟩ | ⟨gd, cd, rfl, hrow1⟩
                    · exact absurd h0 HUE.out
                    obtain ⟨_, _, hv1, hcd1, hcd2, -⟩ := OwnN.read hown1
                    cases hv1
                    unfold maxLen at hcd2
                    have hown' := hown.below hb1
                    have hbel' := hbel.trans (hb1.mono hbel.size)
                    clear hown hbel hrow1 hb1 HUN HX HG HN
                    have hRw := HRW0.out
                    go_wp2_with (go_at_call 117; (with_reducible refine (HZ _).out.mono ?_); rintro e w' ⟨rfl, rfl⟩)
                    clear hRw
                    go_loopw [9, 17, 18, 100] (fun v zb y i wk => ∃ (L : List Int) (b : Bool) (Y j : Nat), zb = .bool b ∧ y = .int .i64 Y ∧ i = .int .i64 j ∧ j ≤ u.length ∧ OwnV (Value.int .i64) 2 wk w.heap.size v L ∧ L = acc ls ((u.take j).map fun o : Nat => m + (o : Int)) ∧ b = decide (0 ∈ u.take j) ∧ Y = wmx (u.take j) ∧ (∀ x ∈ u.take j, x ≤ Rm) ∧ OwnN .u64 47 wk wr.heap.size (.slice (some ⟨gd, 0, none⟩) u.length cd) u ∧ Below w.heap.size w wk) (fun _ _ _ i _ => u.length - (intOf i).toNat)
                    case atStart => exact ⟨ls, false, 0, 0, rfl, rfl, rfl, Nat.zero_le _, hown', rfl, by simp, rfl, by simp, hown1, hbel'⟩
                    case round =>
                      clear hown' hown1 hbel'
                      obtain ⟨L, b, Y, j, rfl, rfl, rfl, hj, hownL, hL, hb0, hY, hall, hownd, hbelk⟩ := hrel
                      have hLl : L.length = ls.length + j := by
                        rw [hL, acc_len, List.length_map, List.length_take]; omega
                      have hLn : L.length ≤ ls.length + j ∧ ls.length + j ≤ L.length := by omega
                      have hYb : Y ≤ 64 := by rw [hY]; exact wmx_le H64.out _
                      have HL := Lib.hid hL; have HB0 := Lib.hid hb0; have HY := Lib.hid hY; have HALL := Lib.hid hall
                      clear hL hb0 hY hall hLl
                      have hLne : L ≠ [] := List.ne_nil_of_length_pos (by omega)
                      have hap := hownd.apart hownL HUE.out hLne
                      rcases hownL.forms with ⟨_, h0⟩ | ⟨gL, cL, rfl, hrowL⟩
                      · exact absurd h0 hLne
                      obtain ⟨_, _, hv1, hcL1, hcL2, -⟩ := hownL.read
                      cases hv1
                      unfold maxLen at hcL2
                      by_cases hjl : j < u.length
                      · have hgx : wr.cell? ⟨gd, j, none⟩ = some (.int .u64 (u.getD j 0 : Nat)) := RowN.cell hownd j hjl
                        have hxj : u[j]? = some (u.getD j 0) := by rw [List.getD_eq_getElem?_getD, List.getElem?_eq_getElem hjl]; rfl
                        have hx64 := H64.out _ (List.mem_of_getElem? hxj)
                        generalize u.getD j 0 = x at *
                        by_cases hxR : x ≤ Rm
                        · have HMS := Lib.hid (mem_snoc hxj b HB0.out)
                          have HWS := Lib.hid (wmx_snoc hxj)
                          have HTS := Lib.hid (take_snocN hxj)
                          have HWD := fun w => Lib.hid (rwidth_any x w hx64)
                          have hwx := wid_64 hx64
                          obtain ⟨y0, hy0⟩ : ∃ y, L[L.length - 1]? = some y := ⟨_, List.getElem?_eq_getElem (by omega)⟩
                          have hgy := hrowL.cell _ _ hy0
                          have HLA := Lib.hid (last_of hy0)
                          have hL1 : 1 ≤ L.length := by omega
                          obtain ⟨r, hr⟩ : ∃ r, L.length - 1 = r := ⟨_, rfl⟩
                          rw [hr] at hgy
                          have hrL : r < L.length := by omega
                          have hrw : IntKind.i64.wrap ((L.length : Int) - 1) = (r : Int) := by rw [wrap_eq, wrap_in (by omega)]; omega
                          have HRW := Lib.hid hrw
                          clear hr hrw
                          have hL4 : L.length + 1 ≤ 5000 := by have := HM.out; omega
                          have hszk := hbelk.size
                          have hc1' : L.length + 1 ≤ maxLen := by unfold maxLen; omega
                          have hc2' : (L.length + 1) * 8 ≤ 140737488355328 := by omega
                          have HC1 := Lib.hid hc1'; have HC2 := Lib.hid hc2'
                          clear hc1' hc2'
                          obtain ⟨V, hV⟩ : ∃ V, wrap64 (y0 + (m + (x : Int))) = V := ⟨_, rfl⟩
                          have hV1 : wrap64 (wrap64 (y0 + m) + wrap64 (x : Int)) = V := (add3 y0 m x).trans hV
                          have hV2 : IntKind.i64.wrap (IntKind.i64.wrap (y0 + m) + IntKind.i64.wrap (x : Int)) = V := by rw [wrap_eq, wrap_eq, wrap_eq]; exact hV1
                          have HV := Lib.hid hV; have HV1 := Lib.hid hV1; have HV2 := Lib.hid hV2
                          have HAP := Lib.hid hap
                          have hLV : L ++ [V] = acc ls ((u.take (j + 1)).map fun o : Nat => m + (o : Int)) := by
                            rw [HTS.out, List.map_append, acc_app, ← HL.out]
                            show _ = L ++ [wrap64 (L.getLastD 0 + (m + (x : Int)))]
                            rw [HLA.out, hV]
                          have HLV := Lib.hid hLV
                          have HALL2 := Lib.hid (show ∀ x' ∈ u.take (j + 1), x' ≤ Rm from fun x' hx' => by
                            rw [HTS.out] at hx'
                            rcases List.mem_append.1 hx' with h | h
                            · exact HALL.out x' h
                            · rw [List.mem_singleton.1 h]; exact hxR)
                          have HC3 := Lib.hid (hbelk.alloc hszk (.cells #[.int .i64 V] 2)).drew.size
                          have HRD1 : Hid (RdV (Value.int .i64) (wr.alloc (.cells #[.int .i64 V] 2)).drew (wr.heap.size + 1) (.slice (some ⟨wr.heap.size, 0, none⟩) 1 1) [V]) := Lib.hid (RdV.one (Value.int .i64) wr V 1 2 (by decide) (by decide))
                          have HOW := Lib.hid (hownL.alloc (.cells #[.int .i64 V] 2)).drew
                          clear hxj hy0 hV hV1 hV2 hap hLne hLV
                          cases b
                          all_goals go_wp2_with (go_at_call 61; (with_reducible refine (HWD _).out.mono ?_); rintro e w' ⟨rfl, rfl⟩)
                          all_goals
                            have hV1 := HV1.out
                            have hV2 := HV2.out
                            have hrw := HRW.out
                            go_region_law (first
                              | (show (if Region.wanted ⟨some 130, _, _, _, _, _⟩ _ = true then _ else _); refine step_appV (f := Value.int .i64) (fun _ => rfl) (.int .i64 0) rfl rfl (.tmp 116) (.tmp 129) 70 rfl w.heap.size 2 8 Tryz.underlying70 Tryz.infI64 (.slice (some ⟨gL, 0, none⟩) L.length cL) L rfl HOW.out (wr.heap.size + 1) (.slice (some ⟨wr.heap.size, 0, none⟩) 1 1) V rfl HRD1.out HC1.out HC2.out HC3.out ?_; intro v' w' hown' hb' hg')
                              | (go_simp; go_at_call 117; (with_reducible refine (HZ _).out.mono ?_); rintro e w' ⟨rfl, rfl⟩))
                          all_goals
                            clear hV1 hV2 hrw
                            go_wp2_with fail
                            go_roundw
                            case rel => exact ⟨L ++ [V], _, max Y (wid x), j + 1, rfl, vint (by omega), by go_num, hjl, hown', HLV.out, (by first | exact HMS.out | (rw [zero_eq]; exact HMS.out)), by rw [HWS.out, HY.out], HALL2.out, (OwnN.drew (hownd.alloc _)).keep hg' HAP.out, (hbelk.alloc hszk _).drew.trans hb'⟩
                            case measure => simp [intOf] <;> omega
                        · have hxR' : Rm < x := by omega
                          have hmem := List.mem_of_getElem? hxj
                          have hR := HNO'.out (fun h => hxR (h.2.2 _ hmem))
                          have HRR := Lib.hid hR
                          clear hR hxR hmem hxj hap
                          go_wp2_with fail
                          go_ret2
                          rw [← HRR.out]
                          exact RetVE.mk rfl (OwnV.nil _ _ _ _) hbelk
                      · have htk : u.take j = u := List.take_of_length_le (by omega)
                        have hbz := HB0.out; have hyw := HY.out; have hal := HALL.out; have hLf := HL.out
                        rw [htk] at hbz hyw hal hLf
                        clear hap hLne htk
                        by_cases hok : b = true ∧ Y = k
                        · obtain ⟨hbt, hYk⟩ := hok
                          subst hbt
                          have hfin := HOK'.out ⟨of_decide_eq_true hbz.symm, hyw.symm.trans hYk, hal⟩
                          rw [← hLf, show m0 - 32 = n - L.length from by have := HM.out; omega] at hfin
                          have HFI := Lib.hid hfin
                          have hLn2 : 1 ≤ L.length ∧ L.length ≤ n := by have := HM.out; omega
                          have hd : ((Y : Int) != (k : Int)) = false := by rw [hYk]; exact bne_self_eq_false _
                          have HPQ := Lib.hid (show (q : Int) + 1 + (nb : Int) = ((q + 1 + nb : Nat) : Int) by omega)
                          clear hbz hyw hal hLf hfin hYk
                          go_wp2_with fail
                          go_roundw
                          case rel => exact ⟨q + 1 + nb, L, vint HPQ.out, hownL, hLn2.1, hLn2.2, HFI.out, hbelk⟩
                          case measure => simp only [lenS]; have := HM.out; omega
                        · have hR := HNO'.out (fun h => hok ⟨hbz.trans (decide_eq_true h.1), hyw.trans h.2.1⟩)
                          have HRR := Lib.hid hR
                          clear hR hbz hyw hal hLf
                          cases b with
                          | false =>
                            clear hok
                            go_wp2_with fail
                            go_ret2
                            rw [← HRR.out]
                            exact RetVE.mk rfl (OwnV.nil _ _ _ _) hbelk
                          | true =>
                            have hd : ((Y : Int) != (k : Int)) = true := bne_iff_ne.2 (fun e => hok ⟨rfl, by omega⟩)
                            clear hok
                            go_wp2_with fail
                            go_ret2
                            rw [← HRR.out]
                            exact RetVE.mk rfl (OwnV.nil _ _ _ _) hbelk
                  · have hR := HD.out
                    rw [decB_e (by omega) hcm (getB_rest hg hb hk hw hnb hsz hr) (by decide)] at hR
                    have HRR := Lib.hid hR
                    have HUN := fun w => Lib.hid (runpack_eq (pk s q nb) 32 (k : Int) w (unpackR_rest (n := 32) (w := k) (by omega) hw (by rw [hps, hnb]) hr))
                    have HX := Lib.hid hx
                    clear hR hg hcm hk hnb hr hps hx HZ hz
                    generalize pk s q nb = S at *
                    go_wp2_with (first
                      | (go_at_call 63; (with_reducible refine HG.out.mono ?_); rintro e w' ⟨rfl, rfl⟩)
                      | (go_at_call 91; (with_reducible refine (HN _).out.mono ?_); rintro e w' ⟨rfl, rfl⟩))
                    rw [HX.out]
                    refine (HUN _).out.mono ?_; rintro e w1 ⟨v1, rfl, _, hb1⟩
                    have hbel1 := hbel.trans (hb1.mono hbel.size)
                    clear hb1 HUN HX HG HN
                    go_wp2
                    go_ret2
                    rw [← HRR.out]
                    exact RetVE.mk rfl (OwnV.nil _ _ _ _) hbel1
                · have hR := HD.out
                  rw [decB_e (by omega) hcm (getB_short hg hb hk hw hnb (by omega)) (by decide)] at hR
                  have HRR := Lib.hid hR
                  have hd : ¬ ((q : Int) + 1 + (nb : Int) ≤ (s.size : Int)) := by omega
                  clear hR hg hcm hk hnb
                  go_wp2_with (first
                    | (go_at_call 63; (with_reducible refine HG.out.mono ?_); rintro e w' ⟨rfl, rfl⟩)
                    | (go_at_call 91; (with_reducible refine (HN _).out.mono ?_); rintro e w' ⟨rfl, rfl⟩))
                  go_ret2
                  rw [← HRR.out]
                  exact RetVE.mk rfl (OwnV.nil _ _ _ _) hbel
              · have hR := HD.out
                rw [decB_e (by omega) hcm (getB_w hg hb rfl (by omega)) (by decide)] at hR
                have HRR := Lib.hid hR
                clear hR hg hcm
                generalize bN s q = k at *
                go_wp2_with (go_at_call 63; (with_reducible refine HG.out.mono ?_); rintro e w' ⟨rfl, rfl⟩)
                go_ret2
                rw [← HRR.out]
                exact RetVE.mk rfl (OwnV.nil _ _ _ _) hbel
            · have hR := HD.out
              rw [decB_e (by omega) hcm (getB_end hg (by omega)) (by decide)] at hR
              have HRR := Lib.hid hR
              have hd : ((q : Int) == (s.size : Int)) = true := by rw [beq_iff_eq]; omega
              clear hR hg hcm
              go_wp2_with (go_at_call 63; (with_reducible refine HG.out.mono ?_); rintro e w' ⟨rfl, rfl⟩)
              go_ret2
              rw [← HRR.out]
              exact RetVE.mk rfl (OwnV.nil _ _ _ _) hbel
          · have hR := HD.out
            rw [decB_e (by omega) hcm (getB_e hg he) he] at hR
            have HRR := Lib.hid hR
            have HG := Lib.hid (rget_is s p wr hmx hg)
            have hd : ((e : Int) != 0) = true := by simp; omega
            clear hR hg hcm he
            go_wp2_with (go_at_call 63; (with_reducible refine HG.out.mono ?_); rintro e w' ⟨rfl, rfl⟩)
            go_ret2
            rw [← HRR.out]
            exact RetVE.mk rfl (OwnV.nil _ _ _ _) hbel
      · by_cases hps : p < s.size
        · have hR := HD.out
          rw [decB_left (by omega) (by omega)] at hR
          have HRR := Lib.hid hR; clear hR
          go_wp2
          go_ret2
          rw [← HRR.out]
          exact RetVE.mk rfl (OwnV.nil _ _ _ _) hbel
        · have hR := HD.out
          rw [decB_done (by omega) (by omega)] at hR
          have HRR := Lib.hid hR; clear hR
          go_wp2
          go_ret2
          rw [← HRR.out]
          exact RetVE.mk rfl hown hbel
  · rw [decX_e (by omega) (by omega) hg he]
    have HG := Lib.hid (rget_is s 0 w hmx hg)
    have hd : ((e : Int) != 0) = true := by simp; omega
    clear hg he h0
    go_enter Tryz.func97, Tryz.ntmps97
    go_wp2_with (first
      | (go_at_call 92; (with_reducible refine (HSZ _).out.mono ?_); rintro e w' ⟨rfl, rfl⟩)
      | (go_at_call 63; (with_reducible refine HG.out.mono ?_); rintro e w' ⟨rfl, rfl⟩))
    go_ret2
    exact RetVE.mk rfl (OwnV.nil _ _ _ _) (Below.refl _ _)
end Go.Proofs.YtbolbbngncnecaaGreat
