/- The walks over the reference: DecodeDict. -/
import Derived.Test.YtikokmafofbofaaDctW8
import Derived.Test.YtikokmafofbofaaDctW6
namespace Go.VB
open Go.RowKit
theorem OwnV.other {α β : Type} {f : α → Value} {h : β → Value} {e e' : TypeId} {w : World} {base base' g c : Nat} {v : Value} {l : List α} {m : List β} (h1 : OwnV f e w base v l) (h2 : RowV h e' w base' g c m) (hg : g < base) (j : Nat) (x : β) :
    OwnV f e (w.setCell ⟨g, j, none⟩ (h x)) base v l := by
  refine World.ownsRow.kept h1 (h2.grown j x) ?_
  rcases hv : v.ownBlock with _ | b
  · exact .inl rfl
  · have := h1.lt b hv
    exact .inr (fun e => by have := Option.some.inj e; omega)
theorem RowV.belowB {α : Type} {f : α → Value} {e : TypeId} {w w' : World} {base g c B : Nat} {l : List α} (h : RowV f e w base g c l) (hb : Below B w w') (hg : g < B) : RowV f e w' base g c l := by
  have h' : w.ownsRow base e 1 (.slice (some ⟨g, 0, none⟩) l.length c) l.length (l.map f) := h
  refine ⟨h'.1, ?_⟩
  rcases h'.2 with ⟨hv, hn⟩ | ⟨g', cap, cur, hv, h1, h2, h3⟩
  · exact .inl ⟨hv, hn⟩
  · cases hv
    exact .inr ⟨g, c, cur, rfl, h1, (hb.block g hg).trans h2, h3⟩
end Go.VB
namespace Go.DI
open Go.RowKit Go.VB Go.BP Go.VarM
theorem decD_0long {s : ByteArray} {b p : Nat} (hg : getR s 0 = (0, (b : Int), 0)) (hw : dws s 0 (b : Nat) [] = ([], (p : Int), 0)) (hp : p < s.size) : decD s ((0 : Nat) : Int) = ([], 2) := by
  refine decD_u (by decide) hg ⟨Nat.le_refl _, fun _ => rfl⟩ hw (u := []) ?_ (by decide)
  refine unpackR_long (n := 0) (w := wdt 0) (by decide) (by rw [show wdt 0 = 0 from wid_zero]; decide) ?_
  have : (s.extract p s.size).size = s.size - p := by rw [ByteArray.size_extract]; omega
  rw [this]; omega
theorem decD_0ok {s : ByteArray} {b p : Nat} (hg : getR s 0 = (0, (b : Int), 0)) (hw : dws s 0 (b : Nat) [] = ([], (p : Int), 0)) (hp : s.size ≤ p) : decD s ((0 : Nat) : Int) = ([], 0) := by
  have hx : (s.extract p s.size).size = 0 := by rw [ByteArray.size_extract]; omega
  have h0 : num (s.extract p s.size) < 2 ^ (0 * wdt 0) := by
    have := num_lt (s.extract p s.size)
    rw [hx] at this
    simpa using this
  rw [decD_l (by decide) hg ⟨Nat.le_refl _, fun _ => rfl⟩ hw (u := []) (by
    rw [unpackR_ok (by decide) (by rw [show wdt 0 = 0 from wid_zero]; decide) (by rw [hx, Nat.zero_mul]) h0]; rfl)]
  rw [lkR_ok (by simp) (by simp)]; rfl
end Go.DI
namespace Go.Proofs.Ytikokmafofbofaa
open Go.RowKit Go.VB Go.VarM Go.BP Go.RL Go.DI
set_option maxHeartbeats 400000 in
theorem rsz_any (n : Int) (w : World) : Calls Try.prog 40 #[.int .i64 n] w (Ret (.bool (decide (0 ≤ n ∧ n ≤ 4096))) w) := by
  by_cases h0 : n < 0
  · rw [decide_eq_false (by omega)]
    go_enter Try.func40, Try.ntmps40
    go_wp2
    go_ret
    exact Ret.mk rfl
  have hd0 : decide (0 ≤ n) = true := decide_eq_true (by omega)
  by_cases h1 : 4096 < n
  · rw [decide_eq_false (by omega)]
    have hd1 : decide (n ≤ 4096) = false := decide_eq_false (by omega)
    go_enter Try.func40, Try.ntmps40
    go_wp2
    go_ret
    exact Ret.mk (by rw [← hd1]; rfl)
  have hd1 : decide (n ≤ 4096) = true := decide_eq_true (by omega)
  rw [decide_eq_true (by omega)]
  go_enter Try.func40, Try.ntmps40
  go_wp2
  go_ret
  exact Ret.mk (by rw [← hd1]; rfl)
theorem rget_is (s : ByteArray) (i : Int) (w : World) (hs : s.size ≤ maxLen) {a : Nat} {b : Int} {c : Nat} (h : getR s i = (a, b, c)) :
    Calls Try.prog 41 #[.string s, .int .i64 i] w (Ret (.tuple #[.int .u64 (a : Int), .int .i64 b, .int .i64 (c : Int)]) w) := by
  have := rget_any s i w hs
  rw [h] at this
  exact this
theorem rget_ok (s : ByteArray) (i : Int) (w : World) (hs : s.size ≤ maxLen) {a : Nat} {b : Int} (h : getR s i = (a, b, 0)) :
    Calls Try.prog 41 #[.string s, .int .i64 i] w (Ret (.tuple #[.int .u64 (a : Int), .int .i64 b, .int .i64 0]) w) := rget_is s i w hs h
section
variable (s : ByteArray) (hs : s.size ≤ 140737488351232)
include hs
set_option maxRecDepth 100000 in
set_option maxHeartbeats 8000000 in
theorem rdecode_in (n k b : Nat) (w : World) (hn : n ≤ 4096) (hg : getR s 0 = (k, (b : Int), 0)) (hbs : b ≤ s.size) (hk : k ≤ n ∧ (k = 0 → n = 0)) (b0 : Bool) (hd0 : ((k : Int) == 0) = b0) (hd1 : b0 = true → n ≤ 0) :
    Calls Try.prog 31 #[.string s, .int .i64 (n : Int)] w (RetVE Value.string 9 (decD s (n : Nat)).1 (decD s (n : Nat)).2 w) := by
  have hmx : s.size ≤ maxLen := by unfold maxLen; omega
  have HG := fun w => Lib.hid (rget_ok s 0 w hmx hg)
  have hk1 := hk.1
  have h1 := fun w => rsz_any n w
  rw [decide_eq_true (by omega)] at h1
  have HSZ := fun w => Lib.hid (h1 w); clear h1
  generalize hD : dws s k (b : Nat) [] = D
  have HD := Lib.hid hD
  have HK := Lib.hid hk; have HGR := Lib.hid hg
  clear hD hk hg
  cases b0 with
  | true =>
    have hn0 : n = 0 := by have := hd1 rfl; omega
    have hk0 : k = 0 := by omega
    subst hn0
    subst hk0
    clear hd1 hd0 HK hk1 HD
    have HL1 := Lib.hid (fun h => decD_0long HGR.out (p := b) rfl h); have HL2 := Lib.hid (fun h => decD_0ok HGR.out (p := b) rfl h)
    have HSZ0 := fun w => Lib.hid (show Calls Try.prog 40 #[.int .i64 0] w (Ret (.bool true) w) from (HSZ w).out)
    have HG0 := fun w => Lib.hid (show Calls Try.prog 41 #[.string s, .int .i64 0] w (Ret (.tuple #[.int .u64 0, .int .i64 (b : Int), .int .i64 0]) w) from (HG w).out)
    clear HSZ HG
    change Calls Try.prog 31 #[.string s, .int .i64 0] w _
    generalize decD s ((0 : Nat) : Int) = R at *
    by_cases hbl : b < s.size
    · have hR := Lib.hid (HL1.out hbl)
      go_enter Try.func31, Try.ntmps31
      go_wp2_with (first
        | (go_at_call 40; (with_reducible refine (HSZ0 _).out.mono ?_); rintro e w' ⟨rfl, rfl⟩)
        | (go_at_call 41; (with_reducible refine (HG0 _).out.mono ?_); rintro e w' ⟨rfl, rfl⟩))
      refine wp_loop_rounds 1 ?_
      rw [rounds_succ]
      go_wp2
      go_ret2
      rw [hR.out]
      exact RetVE.mk rfl (OwnV.nil _ _ _ _) (Below.refl _ _)
    · have hR := Lib.hid (HL2.out (by omega))
      go_enter Try.func31, Try.ntmps31
      go_wp2_with (first
        | (go_at_call 40; (with_reducible refine (HSZ0 _).out.mono ?_); rintro e w' ⟨rfl, rfl⟩)
        | (go_at_call 41; (with_reducible refine (HG0 _).out.mono ?_); rintro e w' ⟨rfl, rfl⟩))
      refine wp_loop_rounds 1 ?_
      rw [rounds_succ]
      go_wp2
      go_ret2
      rw [hR.out]
      exact RetVE.mk rfl (OwnV.nil _ _ _ _) (Below.refl _ _)
  | false =>
    have hdk : decide (n < k) = false := decide_eq_false (by omega)
    have hk0 : 0 < k := by have := beq_eq_false_iff_ne.1 hd0; omega
    clear hd1
    go_enter Try.func31, Try.ntmps31
    go_wp2_with (first
      | (go_at_call 40; (with_reducible refine (HSZ _).out.mono ?_); rintro e w' ⟨rfl, rfl⟩)
      | (go_at_call 41; (with_reducible refine (HG _).out.mono ?_); rintro e w' ⟨rfl, rfl⟩))
    clear HSZ HG
    go_loopw [7, 9, 10] (fun a ws i wr => ∃ (p j : Nat) (ls : List ByteArray), a = .int .i64 p ∧ i = .int .i64 j ∧ j ≤ k ∧ p ≤ s.size ∧ OwnV Value.string 9 wr w.heap.size ws ls ∧ ls.length = j ∧ dws s (k - j) (p : Nat) ls = D ∧ Below w.heap.size w wr) (fun _ _ i _ => k - (intOf i).toNat)
    case atStart => exact ⟨b, 0, [], rfl, rfl, Nat.zero_le _, hbs, OwnV.nil _ _ _ _, rfl, HD.out, Below.refl _ _⟩
    case round =>
      obtain ⟨p, j, ls, rfl, rfl, hj, hp, hown, hlen, hd, hbel⟩ := hrel
      have HL := Lib.hid hlen
      have hl4 : ls.length ≤ 4096 := by omega
      have hjl : j ≤ ls.length := by omega
      have hjl2 : ls.length ≤ j := by omega
      clear hlen
      obtain ⟨A, cc, _, rfl, rfl, hc1, hc2⟩ := hown.read.bds
      have hrd := hown.read
      have hszr := hbel.size
      by_cases hlt : j < k
      · rw [show k - j = (k - (j + 1)) + 1 from by omega] at hd
        obtain ⟨a, b', c1, hgg⟩ : ∃ a b c, getR s (p : Nat) = (a, b, c) := ⟨_, _, _, rfl⟩
        have HGG := fun w => Lib.hid (rget_is s p w hmx hgg)
        by_cases hc0 : c1 = 0
        · subst hc0
          replace HGG := fun w => Lib.hid (rget_ok s p w hmx hgg)
          obtain ⟨k1, m1, e1, e2, e3, e4, e5, e6⟩ := getR_zero hgg
          obtain ⟨b', rfl⟩ : ∃ b'' : Nat, b' = b'' := ⟨k1 + m1, by omega⟩
          have hb' : b' ≤ s.size := by omega
          have ha64 : (a : Int) ≤ 18446744073709551615 := by omega
          clear e1 e2 e3 e4 e5 e6
          obtain ⟨m, hm⟩ : ∃ m : Nat, (s.size : Int) - (b' : Int) = m := ⟨s.size - b', by omega⟩
          have hmb : (m : Int) ≤ 140737488351232 := by omega
          by_cases hfit : b' + a ≤ s.size
          · have hgw := getW_ok hgg hfit
            obtain ⟨q1, hq1⟩ : ∃ q : Nat, b' + a = q := ⟨_, rfl⟩
            have hq2 : (b' : Int) + (a : Int) = (q1 : Int) := by omega
            have hq3 : b' ≤ q1 := by omega
            have hq4 : q1 ≤ s.size := by omega
            have ham : (a : Int) ≤ (m : Int) := by omega
            have hai : (a : Int) ≤ 9223372036854775807 := by omega
            rw [hq1] at hgw
            clear hq1 hgg hfit
            rcases Nat.eq_zero_or_pos ls.length with h0 | h0
            · rw [dws_go hgw (fun y hy => by rw [List.eq_nil_of_length_eq_zero h0] at hy; simp at hy)] at hd
              have HD := Lib.hid hd
              have hl0 : ls.length ≤ 0 := by omega
              have hj0 : j ≤ 0 := by omega
              clear hd hgw hrd h0
              go_wp2_with (first
                | (go_at_call 41; (with_reducible refine (HGG _).out.mono ?_); rintro e w' ⟨rfl, rfl⟩)
                | (at_builtin; refine wpl_appV (f := Value.string) (fun _ => rfl) (.string ⟨#[]⟩) rfl rfl _ _ 22 rfl w.heap.size 9 16 Try.underlying22 Try.infStr (.slice A ls.length cc) ls rfl (hown.alloc _) (wr.heap.size + 1) _ [s.extract b' q1] rfl (RdV.one _ _ _ _ _ (by decide) (by decide)) (by unfold maxLen; simp; omega) (by simp; omega) (by simp; omega) ?_; intro v' w' hown' hb' _))
              go_roundw
              case rel => exact ⟨q1, j + 1, _, rfl, by go_num, hlt, hq4, hown', by rw [List.length_append, HL.out]; rfl, HD.out, (hbel.alloc hszr _).trans hb'⟩
              case measure => simp [intOf] <;> omega
            · obtain ⟨y, hy⟩ : ∃ y, ls[ls.length - 1]? = some y := ⟨_, List.getElem?_eq_getElem (by omega)⟩
              obtain ⟨ad, rfl, _, hgx⟩ := hrd.at hy
              rw [← List.getLast?_eq_getElem?] at hy
              clear hrd
              obtain ⟨r, hr⟩ : ∃ r : Nat, (j : Int) - 1 = r := ⟨j - 1, by omega⟩
              have hrl : ls.length - 1 = r := by omega
              rw [hrl] at hgx
              have hrn : r < ls.length := by omega
              have hj1 : 0 < j := by omega
              clear hrl
              cases hyx : lts y (s.extract b' q1) with
              | true =>
                rw [dws_go hgw (fun z hz => by rw [hy] at hz; cases hz; exact hyx)] at hd
                have HD := Lib.hid hd
                have hd1 := le_false hyx
                clear hd hgw hy hyx
                go_wp2_with (first
                  | (go_at_call 41; (with_reducible refine (HGG _).out.mono ?_); rintro e w' ⟨rfl, rfl⟩)
                  | (at_builtin; refine wpl_appV (f := Value.string) (fun _ => rfl) (.string ⟨#[]⟩) rfl rfl _ _ 22 rfl w.heap.size 9 16 Try.underlying22 Try.infStr (.slice (some ad) ls.length cc) ls rfl (hown.alloc _) (wr.heap.size + 1) _ [s.extract b' q1] rfl (RdV.one _ _ _ _ _ (by decide) (by decide)) (by unfold maxLen; simp; omega) (by simp; omega) (by simp; omega) ?_; intro v' w' hown' hb' _))
                go_roundw
                case rel => exact ⟨q1, j + 1, _, rfl, by go_num, hlt, hq4, hown', by rw [List.length_append, HL.out]; rfl, HD.out, (hbel.alloc hszr _).trans hb'⟩
                case measure => simp [intOf] <;> omega
              | false =>
                rw [dws_f hgw hy hyx] at hd
                have HR := Lib.hid (decD_w hn HGR.out HK.out (HD.out.trans hd.symm) (by decide))
                have hd1 := le_true hyx
                clear hd hgw hy hyx
                go_wp2_with (first | (go_at_call 41; (with_reducible refine (HGG _).out.mono ?_); rintro e w' ⟨rfl, rfl⟩))
                go_ret2
                rw [HR.out]
                exact RetVE.mk rfl (OwnV.nil _ _ _ _) hbel
          · rw [dws_e (getW_short hgg (by omega)) (by decide)] at hd
            have HR := Lib.hid (decD_w hn HGR.out HK.out (HD.out.trans hd.symm) (by decide))
            have ham : (m : Int) < (a : Int) := by omega
            clear hd hgg hfit hrd
            go_wp2_with (first | (go_at_call 41; (with_reducible refine (HGG _).out.mono ?_); rintro e w' ⟨rfl, rfl⟩))
            go_ret2
            rw [HR.out]
            exact RetVE.mk rfl (OwnV.nil _ _ _ _) hbel
        · rw [dws_e (getW_e hgg hc0) hc0] at hd
          have HR := Lib.hid (decD_w hn HGR.out HK.out (HD.out.trans hd.symm) hc0)
          have hdc : ((c1 : Int) != 0) = true := by simp; omega
          clear hd hgg hc0 hrd
          go_wp2_with (first | (go_at_call 41; (with_reducible refine (HGG _).out.mono ?_); rintro e w' ⟨rfl, rfl⟩))
          go_ret2
          rw [HR.out]
          exact RetVE.mk rfl (OwnV.nil _ _ _ _) hbel
      · rw [show k - j = 0 from by omega, dws_done] at hd
        have HDW := Lib.hid (HD.out.trans hd.symm)
        have hlk : ls.length = k := by omega
        have HLK := Lib.hid hlk
        clear hd hlk
        have hn0 : 0 < n := by omega
        obtain ⟨u, c3, hu⟩ : ∃ u c, unpackR (s.extract p s.size) n (wdt k : Nat) = (u, c) := ⟨_, _, rfl⟩
        have HUN := fun w => Lib.hid (runpack_eq (s.extract p s.size) n (wdt k : Nat) w hu)
        obtain ⟨m, hm⟩ : ∃ m, k = m + 1 := ⟨k - 1, by omega⟩
        have HW := fun w => Lib.hid (show Calls Try.prog 30 #[.int .u64 (m : Int)] w (Ret (.int .i64 (wdt k : Nat)) w) by
          have := rwidth_any m w (by omega)
          rwa [show wid m = wdt k by unfold wdt; rw [hm]; rfl] at this)
        have hm' : (k : Int) - 1 = (m : Int) := by omega
        have hm4 : m ≤ 4096 := by omega
        have hwm : IntKind.u64.wrap (m : Int) = (m : Int) := by rw [IntKind.wrap_u64]; omega
        have hwd := wdt_le (k := k) (by omega)
        by_cases hc3 : c3 = 0
        · subst hc3
          obtain ⟨u1, u2, _⟩ := unpack_zero hn (show wdt k ≤ 64 by omega) hu
          have hR := Lib.hid (decD_l hn HGR.out HK.out HDW.out hu)
          have hul : u.length ≤ 4096 := by omega
          have HU := Lib.hid (fun x hx => Nat.lt_of_lt_of_le (u2 x hx) (Nat.pow_le_pow_right (by decide) (by omega : wdt k ≤ 64)))
          clear u1 u2 hu hm hwd
          generalize wdt k = d at *
          go_wp2_with fail
          go_region_with (first
            | (go_at_call 30; (with_reducible refine (HW _).out.mono ?_); rintro e w' ⟨rfl, rfl⟩)
            | (go_at_call 42; (with_reducible refine (HUN _).out.mono ?_); rintro e w5 ⟨v5, rfl, hown5, hb5⟩))
          have hr5 : RdV Value.string w5 w5.heap.size (.slice A ls.length cc) ls := (show RdV Value.string wr.drew wr.drew.heap.size (.slice A ls.length cc) ls from hrd).step hb5
          have hru := RdN.toU hown5.read
          obtain ⟨A5, k5, _, rfl, rfl, hx1, hx2⟩ := hru.bds
          have hb15 := bel_trans hbel.drew hb5
          have hmk := run_makeV (P := Try.prog) (t := 33) (z := .bool false) rfl Try.underlying33 Try.infBl ls.length (by omega) (by unfold maxLen; omega) w5
          have hrow := RowV.made Value.bool false 4 w5 w5.heap.size ls.length (Nat.le_refl _) (by unfold maxLen; omega)
          have hb6 := (Below.refl w5.heap.size w5).alloc (Nat.le_refl _) (.cells (madeCells #[.bool false] ls.length) 4)
          have hsz6 : w5.heap.size < (w5.alloc (.cells (madeCells #[.bool false] ls.length) 4)).heap.size := by simp
          have HR5 := Lib.hid hr5; have HRU := Lib.hid hru
          clear hr5 hru hown5 hown hrd hb5 HW HUN hbel
          generalize w5.alloc (.cells (madeCells #[.bool false] ls.length) 4) = w6 at hmk hrow hb6 hsz6
          go_wp2_with fail
          clear hmk
          have hsz5 := hb15.size
          go_loopw [17, 120] (fun v i wq => ∃ (j : Nat) (L : List ByteArray) (U : List Bool), i = .int .i64 j ∧ j ≤ u.length ∧ OwnV Value.string 9 wq (w5.heap.size + 1) v L ∧ L = (u.map fun i => ls.getD i ⟨#[]⟩).take j ∧ RowV Value.bool 4 wq w5.heap.size w5.heap.size ls.length U ∧ UOk ls.length u j U ∧ (∀ i ∈ u.take j, i < ls.length) ∧ Below w5.heap.size w5 wq ∧ w5.heap.size < wq.heap.size) (fun _ i _ => u.length - (intOf i).toNat)
          case atStart => exact ⟨0, [], _, rfl, Nat.zero_le _, OwnV.nil _ _ _ _, by rw [List.take_zero], hrow, UOk.start _ _, by simp, hb6, hsz6⟩
          case round =>
            clear hrow hb6 hsz6
            obtain ⟨jj, L, U, rfl, hjj, hout, hL, hrow, hU, hlt2, hbelq, hszq⟩ := hrel
            have HLL := Lib.hid hL; have HUO := Lib.hid hU; have HLT := Lib.hid hlt2
            have hLl : L.length ≤ jj := by rw [hL, List.length_take]; omega
            clear hL hU hlt2
            by_cases hjl2 : jj < u.length
            · have hx : u[jj]? = some u[jj] := List.getElem?_eq_getElem hjl2
              obtain ⟨ad, rfl, _, hgx0⟩ := (HRU.out.below hbelq).at hx
              have hx64 := HU.out _ (List.mem_of_getElem? hx)
              have HX := Lib.hid hx; have HXM := Lib.hid (List.mem_of_getElem? hx)
              clear hx
              generalize u[jj] = x at hgx0 hx64 HX HXM
              have hgx : wr.cell? (ad.add jj) = some (.int .u64 (x : Int)) := hgx0
              clear hgx0
              by_cases hxl : x < ls.length
              · have hy : ls[x]? = some ls[x] := List.getElem?_eq_getElem hxl
                have hUx : U[x]? = some (U[x]'(by rw [HUO.out.1]; exact hxl)) := List.getElem?_eq_getElem _
                have hc2 := hrow.cell x _ hUx
                have hf2 := hrow.frozen x
                generalize U[x]'_ = ux at hc2 hUx
                have hst := hrow.store x true
                have hout2 := hout.other hrow (Nat.lt_succ_self _) x true
                have hbel2 := hbelq.setCell (p := ⟨w5.heap.size, x, none⟩) (Nat.le_refl _) (.bool true)
                obtain ⟨bd, rfl, _, hgy⟩ := (HR5.out.below hbel2).at hy
                have htk := Go.DI.take_snoc (l := u.map fun i => ls.getD i ⟨#[]⟩) (j := jj) (s := ls[x]) (by rw [List.getElem?_map, HX.out, Option.map_some, List.getD_eq_getElem?_getD, hy]; rfl)
                have hltx : ∀ i ∈ u.take (jj + 1), i < ls.length := by
                  intro i hi
                  rw [Go.DI.take_snoc HX.out] at hi
                  rcases List.mem_append.1 hi with hi | hi
                  · exact HLT.out i hi
                  · rw [List.mem_singleton.1 hi]; exact hxl
                have hxk : x < k := by have := HLK.out; omega
                have hszs : (wr.setCell ⟨w5.heap.size, x, none⟩ (.bool true)).heap.size = wr.heap.size := World.size_setCell _ _ _
                have HTK := Lib.hid htk; have HLTX := Lib.hid hltx; have HUS := Lib.hid (HUO.out.step HX.out hxl)
                have HST := Lib.hid hst; have HOUT := Lib.hid hout2; have HB2 := Lib.hid hbel2; have HSZS := Lib.hid hszs
                clear hy hUx hst hout2 hbel2 htk hltx hszs
                generalize ls[x] = y at hgy HTK
                go_wp2_with (first
                  | (at_builtin; refine wpl_appV (f := Value.string) (fun _ => rfl) (.string ⟨#[]⟩) rfl rfl _ _ 22 rfl (w5.heap.size + 1) 9 16 Try.underlying22 Try.infStr _ L rfl (HOUT.out.alloc _) (wr.heap.size + 1) _ [y] rfl (by have := RdV.one Value.string (wr.setCell ⟨w5.heap.size, x, none⟩ (.bool true)) y 1 9 (by decide) (by decide); rw [HSZS.out] at this; exact this) (by unfold maxLen; simp only [List.length_cons, List.length_nil]; omega) (by simp only [List.length_cons, List.length_nil]; omega) (by simp; omega) ?_; intro v' w' hown' hb' _))
                go_roundw
                case rel => exact ⟨jj + 1, _, _, by go_num, hjl2, hown', by rw [HTK.out, ← HLL.out], (HST.out.alloc _).belowB hb' (by omega), HUS.out, HLTX.out, (HB2.out.alloc (by rw [HSZS.out]; omega) _).trans (hb'.mono (by omega)), by have h1 := hb'.size; have h2 := HSZS.out; simp at h1; omega⟩
                case measure => simp [intOf] <;> omega
              · have h := hR.out
                rw [lkR_big HXM.out hxl] at h
                have HH := Lib.hid h
                have hxk : k ≤ x := by have := HLK.out; omega
                clear h
                go_wp2_with fail
                go_ret2
                rw [HH.out]
                exact RetVE.mk rfl (OwnV.nil _ _ _ _) (hb15.trans (hbelq.mono hsz5))
            · have hall : ∀ i ∈ u, i < ls.length := by
                have := HLT.out
                rwa [List.take_of_length_le (by omega)] at this
              have hfin : L = u.map fun i => ls.getD i ⟨#[]⟩ := by rw [HLL.out]; exact List.take_of_length_le (by rw [List.length_map]; omega)
              have hU2 : ∀ m, m < ls.length → U[m]? = some (decide (m ∈ u)) := by
                have := HUO.out.2
                rwa [List.take_of_length_le (by omega)] at this
              have hUn : ∀ m, m < ls.length → m ∉ u → decD s (n : Nat) = ([], 2) := fun m hm hmu => hR.out.trans (lkR_un hm hmu)
              have hUa : (∀ m, m < ls.length → m ∈ u) → decD s (n : Nat) = (L, 0) := fun h => by rw [hR.out, lkR_ok hall h, hfin]
              have hbw := hb15.trans (hbelq.mono hsz5)
              have HUN := Lib.hid hUn; have HUA := Lib.hid hUa; have HU2 := Lib.hid hU2
              clear hall hfin hU2 hUn hUa
              obtain ⟨A6, k6, _, rfl, rfl, _, _⟩ := hout.read.bds
              have HOUT := Lib.hid (hout.lower (by omega : w.heap.size ≤ w5.heap.size + 1))
              have hUl := HUO.out.1
              clear hout
              go_wp2_with fail
              go_loopw [140] (fun i wq => ∃ j : Nat, i = .int .i64 j ∧ j ≤ ls.length ∧ (∀ m, m < j → m ∈ u) ∧ wq = wr) (fun i _ => ls.length - (intOf i).toNat)
              case atStart => exact ⟨0, rfl, Nat.zero_le _, by omega, rfl⟩
              case round =>
                obtain ⟨q, rfl, hq, hmem, rfl⟩ := hrel
                have HMEM := Lib.hid hmem
                clear hmem
                by_cases hql : q < ls.length
                · have hUq := HU2.out q hql
                  have hcq := hrow.cell q _ hUq
                  by_cases hqu : q ∈ u
                  · rw [decide_eq_true hqu] at hcq
                    have HM2 := Lib.hid (show ∀ m, m < q + 1 → m ∈ u from fun m hm => by
                      rcases Nat.lt_or_ge m q with h | h
                      · exact HMEM.out m h
                      · have : m = q := by omega
                        subst this; exact hqu)
                    clear hUq hqu
                    go_wp2_with fail
                    go_roundw
                    case rel => exact ⟨q + 1, by go_num, hql, HM2.out, trivial⟩
                    case measure => simp [intOf] <;> omega
                  · rw [decide_eq_false hqu] at hcq
                    have HR2 := Lib.hid (HUN.out q hql hqu)
                    clear hUq hqu
                    go_wp2_with fail
                    go_ret2
                    rw [HR2.out]
                    exact RetVE.mk rfl (OwnV.nil _ _ _ _) hbw
                · have HR2 := Lib.hid (HUA.out (fun m hm => HMEM.out m (by omega)))
                  go_wp2_with fail
                  go_ret2
                  rw [HR2.out]
                  exact RetVE.mk rfl HOUT.out hbw
        · have HR := Lib.hid (decD_u hn HGR.out HK.out HDW.out hu hc3)
          have hdc : ((c3 : Int) != 0) = true := by simp; omega
          clear hu hm hwd hc3
          generalize wdt k = d at *
          go_wp2_with fail
          go_region_with (first
            | (go_at_call 30; (with_reducible refine (HW _).out.mono ?_); rintro e w' ⟨rfl, rfl⟩)
            | (go_at_call 42; (with_reducible refine (HUN _).out.mono ?_); rintro e w5 ⟨v5, rfl, hown5, hb5⟩))
          all_goals go_wp2_with fail
          all_goals go_ret2
          all_goals rw [HR.out]
          all_goals exact RetVE.mk rfl (OwnV.nil _ _ _ _) (bel_trans hbel.drew hb5)
end
end Go.Proofs.Ytikokmafofbofaa
