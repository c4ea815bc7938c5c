/- The walks over package delta: a block read. -/
import Derived.Test.YtjoohmifbkbpbaaDltW1
namespace Go.DL
open Go.RowKit Go.VB Go.VarM Go.BP Go.RL
/-- It returns a list of its own, an index and a code. -/
def RetG3 (e : TypeId) (x : List Int × Nat × Nat) (w : World) : Ending → World → Prop := fun en w' =>
  ∃ v, en = .returned (.tuple #[v, .int .i64 (x.2.1 : Int), .int .i64 (x.2.2 : Int)]) ∧ OwnV (Value.int .i64) e w' w.heap.size v x.1 ∧ Below w.heap.size w w'
theorem RetG3.mk {e : TypeId} {l : List Int} {q c : Nat} {w w' : World} {x v : Value} (hx : x = .tuple #[v, .int .i64 (q : Int), .int .i64 (c : Int)]) (ho : OwnV (Value.int .i64) e w' w.heap.size v l) (hb : Below w.heap.size w w') : RetG3 e (l, q, c) w (.returned x) w' := ⟨v, by rw [hx], ho, hb⟩
theorem map_at {u : List Nat} {m : Int} {i o : Nat} (h : u[i]? = some o) : (u.map fun o : Nat => m + (o : Int))[i]? = some (m + o) := by rw [List.getElem?_map, h]; rfl
theorem text_some {s : ByteArray} (h : ¬ s.size = 0) : s.toList.isEmpty = false := by
  rw [ByteArray.toList_eq]
  cases hl : s.data.toList with
  | nil => rw [← size_list, hl] at h; exact absurd rfl h
  | cons _ _ => rfl
end Go.DL
namespace Go.Proofs.Ytjoohmifbkbpbaa
open Go.RowKit Go.VB Go.VarM Go.BP Go.RL Go.DL
set_option maxRecDepth 100000 in
set_option maxHeartbeats 2000000 in
theorem addeach_any (v : Value) (u : List Nat) (m : Int) (B : Nat) (w : World) (hr : RdN .u64 w B v u) (hB : B ≤ w.heap.size) (hl : u.length ≤ 4096) (hm : -9223372036854775808 ≤ m ∧ m ≤ 9223372036854775807) (hs : ∀ o ∈ u, m + (o : Int) ≤ 9223372036854775807) :
    Calls Try.prog 47 #[v, .int .i64 m] w (RetV (Value.int .i64) 2 (u.map fun o : Nat => m + (o : Int)) w) := by
  obtain ⟨A, c, rfl, hc1, hc2, hr'⟩ := hr
  have hr : RdN .u64 w B (.slice A u.length c) u := ⟨A, c, rfl, hc1, hc2, hr'⟩
  clear hr'
  unfold maxLen at hc2
  have hmk := run_makeV (P := Try.prog) (t := 23) (z := .int .i64 0) rfl Try.underlying23 Try.infI64 u.length (by omega) (by unfold maxLen; omega) w
  have hrow := RowV.made (Value.int .i64) 0 2 w w.heap.size u.length (Nat.le_refl _) (by unfold maxLen; omega)
  have hb2 := (Below.refl w.heap.size w).alloc (Nat.le_refl _) (.cells (madeCells #[.int .i64 0] u.length) 2)
  generalize w.alloc (.cells (madeCells #[.int .i64 0] u.length) 2) = w1 at hmk hrow hb2
  have hdl : (u.map fun o : Nat => m + (o : Int)).length = u.length := List.length_map _
  have HMA := fun i o (h : u[i]? = some o) => map_at (m := m) h
  generalize (u.map fun o : Nat => m + (o : Int)) = L0 at *
  have HR := Lib.hid hr; have HDL := Lib.hid hdl; have HS := Lib.hid hs; have HMB := fun i o h => Lib.hid (HMA i o h)
  clear hr hdl hs HMA
  go_enter Try.func47, Try.ntmps47
  go_wp2_with fail
  go_loopw [13] (fun i wr => ∃ (j : Nat) (L : List Int), i = .int .i64 j ∧ j ≤ u.length ∧ RowV (Value.int .i64) 2 wr w.heap.size w.heap.size u.length L ∧ L = L0.take j ++ List.replicate (u.length - j) 0 ∧ Below w.heap.size w wr) (fun i _ => u.length - (intOf i).toNat)
  case atStart => exact ⟨0, _, rfl, Nat.zero_le _, hrow, fill_start L0 u.length 0, hb2⟩
  case round =>
    clear hrow hb2 hmk
    obtain ⟨j, L, rfl, hj, hrow, hL, hbel⟩ := hrel
    have HL := Lib.hid hL; clear hL
    by_cases hjl : j < u.length
    · have hlj : u[j]? = some (u.getD j 0) := by rw [List.getD_eq_getElem?_getD, List.getElem?_eq_getElem hjl]; rfl
      obtain ⟨_, _, hv1, _, _, hcx⟩ := HR.out.below (hbel.mono hB)
      cases hv1
      obtain ⟨ad, rfl, _, hgx⟩ := hcx j hjl
      have hsj := HS.out _ (List.mem_of_getElem? hlj)
      have HSE := Lib.hid (fill_set (z := 0) HDL.out hjl (HMB _ _ hlj).out)
      clear hcx hlj
      generalize u.getD j 0 = o at *
      obtain ⟨x, hx⟩ : ∃ x, m + (o : Int) = x := ⟨_, rfl⟩
      rw [hx] at HSE hsj
      have hE : wrap64 (m + wrap64 (o : Int)) = x := by unfold wrap64; omega
      have hst : RowV (Value.int .i64) 2 (wr.setCell ⟨w.heap.size, j, none⟩ (.int .i64 x)) w.heap.size w.heap.size u.length (L.set j x) := hrow.store j x
      have hfr := hrow.frozen j
      have hlL : L.length = u.length := by rw [HL.out]; exact fill_len HDL.out hj
      have hLj : L[j]? = some (L[j]'(by omega)) := List.getElem?_eq_getElem _
      have hcl := hrow.cell j _ hLj
      generalize L[j]'_ = old at hcl
      have hbel2 : Below w.heap.size w (wr.setCell ⟨w.heap.size, j, none⟩ (.int .i64 x)) := hbel.setCell (p := ⟨w.heap.size, j, none⟩) (Nat.le_refl _) _
      have HST := Lib.hid hst; have HBE := Lib.hid hbel2
      clear hLj hst hbel2 hx hsj
      go_wp2_with fail
      go_roundw
      case rel => exact ⟨j + 1, L.set j x, by go_num, hjl, HST.out, by rw [HL.out]; exact HSE.out, HBE.out⟩
      case measure => simp [intOf] <;> omega
    · have hjn : j = u.length := by omega
      have hfin : L = L0 := by rw [HL.out, hjn]; exact fill_end HDL.out
      subst hfin
      go_wp2
      go_ret
      exact RetV.mk rfl (hrow.own_at HDL.out rfl) hbel
section
variable (v : Value) (u : List Nat) (k : Nat) (m : Int) (B : Nat) (w : World) (hr : RdN .u64 w B v u) (hB : B ≤ w.heap.size) (h0 : 0 < u.length) (h64 : ∀ x ∈ u, x < 18446744073709551616) (hk : k ≤ 64) (hm : -9223372036854775808 ≤ m ∧ m ≤ 9223372036854775807)
include hr hB h0 h64 hk hm
set_option maxRecDepth 100000 in
set_option maxHeartbeats 2000000 in
theorem areoff_any (b : Bool) (hb : b = decide (okO u k m)) : Calls Try.prog 46 #[v, .int .i64 (k : Int), .int .i64 m] w (RetB (.bool b) w) := by
  have HLG := Lib.hid (lag_any v u B w hr hB h0 h64)
  have hg64 := h64 _ (gr_in (List.ne_nil_of_length_pos h0))
  have HW := fun w => Lib.hid (bwidth_any (gr u) w hg64)
  obtain ⟨R, hR⟩ : ∃ R : Nat, (9223372036854775807 - m).toNat = R := ⟨_, rfl⟩
  have hRw : IntKind.u64.wrap (9223372036854775807 - IntKind.u64.wrap m) = (R : Int) := by rw [IntKind.wrap_u64, IntKind.wrap_u64]; omega
  have hRb : R < 18446744073709551616 := by omega
  have hbb : b = (decide (lo u = 0) && decide (wid (gr u) = k) && decide (gr u ≤ R)) := by
    rw [hb, ← Bool.decide_and, ← Bool.decide_and]
    refine decide_eq_decide.2 ?_
    unfold okO
    rw [and_assoc]
    refine and_congr_right fun _ => and_congr_right fun _ => ?_
    omega
  have hwl := wid_64 hg64
  clear hr h64 hb hR h0 hB
  generalize lo u = lw at *
  generalize wid (gr u) = d at *
  generalize gr u = g at *
  have HBB := Lib.hid hbb; clear hbb
  by_cases h1 : lw = 0
  · subst h1
    by_cases h2 : d = k
    · subst h2
      by_cases h3 : g ≤ R
      · have hd : decide (g ≤ R) = true := decide_eq_true h3
        go_enter Try.func46, Try.ntmps46
        go_wp2_with (first
          | (go_at_call 34; (with_reducible refine HLG.out.mono ?_); rintro e w2 ⟨rfl, hb2⟩)
          | (go_at_call 35; (with_reducible refine (HW _).out.mono ?_); rintro e w' ⟨rfl, rfl⟩))
        go_ret
        exact RetB.mk (by rw [HBB.out]; simp [h3]) hb2
      · have hd : decide (g ≤ R) = false := decide_eq_false h3
        go_enter Try.func46, Try.ntmps46
        go_wp2_with (first
          | (go_at_call 34; (with_reducible refine HLG.out.mono ?_); rintro e w2 ⟨rfl, hb2⟩)
          | (go_at_call 35; (with_reducible refine (HW _).out.mono ?_); rintro e w' ⟨rfl, rfl⟩))
        go_ret
        exact RetB.mk (by rw [HBB.out]; simp [h3]) hb2
    · have hd : ((d : Int) == (k : Int)) = false := beq_eq_false_iff_ne.2 (by omega)
      go_enter Try.func46, Try.ntmps46
      go_wp2_with (first
        | (go_at_call 34; (with_reducible refine HLG.out.mono ?_); rintro e w2 ⟨rfl, hb2⟩)
        | (go_at_call 35; (with_reducible refine (HW _).out.mono ?_); rintro e w' ⟨rfl, rfl⟩))
      go_ret
      exact RetB.mk (by rw [HBB.out]; simp [h2]) hb2
  · have hd : ((lw : Int) == 0) = false := beq_eq_false_iff_ne.2 (by omega)
    go_enter Try.func46, Try.ntmps46
    go_wp2_with (first
      | (go_at_call 34; (with_reducible refine HLG.out.mono ?_); rintro e w2 ⟨rfl, hb2⟩)
      | (go_at_call 35; (with_reducible refine (HW _).out.mono ?_); rintro e w' ⟨rfl, rfl⟩))
    go_ret
    exact RetB.mk (by rw [HBB.out]; simp [h1]) hb2
end
set_option maxHeartbeats 400000 in
theorem decnone_any (s : ByteArray) (w : World) : Calls Try.prog 29 #[.string s] w (RetVE (Value.int .i64) 2 (decX s 0).1 (decX s 0).2 w) := by
  by_cases h : s.size = 0
  · rw [decX_nil h]
    have hs : s.data.toList = [] := List.eq_nil_of_length_eq_zero (by rw [size_list]; exact h)
    obtain rfl : s = ⟨#[]⟩ := ByteArray.ext (Array.ext' hs)
    clear hs h
    go_enter Try.func29, Try.ntmps29
    go_wp2
    go_ret2
    exact RetVE.mk rfl (OwnV.nil _ _ _ _) (Below.refl _ _)
  · rw [decX_some h]
    have hn := text_some h
    go_enter Try.func29, Try.ntmps29
    go_wp2
    go_ret2
    exact RetVE.mk rfl (OwnV.nil _ _ _ _) (Below.refl _ _)
theorem len3 (l : List Int) : l.length = l.length := rfl
section
variable (s : ByteArray) (p : Int) (c : Nat) (w : World) (hs : s.size ≤ 140737488351232) (h1 : 1 ≤ c) (h32 : c ≤ 32)
include hs h1 h32
set_option maxRecDepth 100000 in
set_option maxHeartbeats 4000000 in
theorem getblock_any : Calls Try.prog 31 #[.string s, .int .i64 p, .int .i64 (c : Int)] w (RetG3 2 (getB s p c) w) := by
  have hmx : s.size ≤ maxLen := by unfold maxLen; omega
  obtain ⟨a, b, e, hg⟩ : ∃ a b e, getR s p = (a, b, e) := ⟨_, _, _, rfl⟩
  by_cases he : e = 0
  · subst he
    obtain ⟨q, hq, hqs⟩ : ∃ q : Nat, b = q ∧ q ≤ s.size := by
      obtain ⟨k, m, _, h2, _, h3, _⟩ := getR_zero hg
      exact ⟨k + m, by omega, h3⟩
    subst hq
    have ha : a < 18446744073709551616 := by
      obtain ⟨_, _, _, _, _, _, _, h⟩ := getR_zero hg; exact h
    have HG := Lib.hid (getsig_ok s p w hmx hg)
    by_cases hb : q < s.size
    · have hbn := get_bN s q hb
      have hb256 := bN_lt s q
      by_cases hw : bN s q ≤ 64
      · obtain ⟨n, hn⟩ : ∃ n, (c * bN s q + 7) / 8 = n := ⟨_, rfl⟩
        obtain ⟨k, hk⟩ : ∃ k, bN s q = k := ⟨_, rfl⟩
        have hnn : needN (c : Int) (k : Int) = (n : Int) := by rw [← hk, needN_in (by omega) hw, hn]
        have hn8 := need8 (c := c) hw
        rw [hn] at hn8
        rw [hk] at hw hn hbn hb256
        have HN := fun w => Lib.hid (bneed_any (c : Int) (k : Int) w)
        rw [hnn] at HN
        by_cases hsz : q + 1 + n ≤ s.size
        · have hps := pk_size hsz
          have hx : s.extract (q + 1) (q + 1 + n) = pk s q n := rfl
          have hz := zag_bd (v := (a : Int)) (by omega) (by omega)
          by_cases hr : num (pk s q n) < 2 ^ (c * k)
          · have hul := digs_len k c (num (pk s q n))
            have hu := digs_lt k c (num (pk s q n))
            have HUN := fun w => Lib.hid (bunpack_eq (pk s q n) (c : Int) (k : Int) w (unpackR_ok (n := c) (w := k) (by omega) hw (by rw [hps, hn]) hr))
            have hB1 := fun (ho : ¬ okO (digs k c (num (pk s q n))) k (zagN a)) => getB_off (c := c) hg hb hk hw hn hsz hr rfl ho
            have hB2 := fun (ho : okO (digs k c (num (pk s q n))) k (zagN a)) => getB_ok (c := c) hg hb hk hw hn hsz hr rfl ho
            generalize digs k c (num (pk s q n)) = u at *
            generalize pk s q n = S at *
            generalize zagN (a : Int) = m at *
            have h2k : (2 : Nat) ^ k ≤ 18446744073709551616 := by
              have := Nat.pow_le_pow_right (n := 2) (by decide) hw
              simpa using this
            have hu64 : ∀ x ∈ u, x < 18446744073709551616 := fun x hx => Nat.lt_of_lt_of_le (hu x hx) h2k
            have hu0 : 0 < u.length := by omega
            have huc : u.length ≤ 4096 := by omega
            have HA := fun (v : Value) w (h : RdN .u64 w w.heap.size v u) => areoff_any v u k m _ w h (Nat.le_refl _) hu0 hu64 hw hz
            by_cases ho : okO u k m
            · rw [hB2 ho]
              have HA' := fun v w h => Lib.hid (HA v w h true (decide_eq_true ho).symm)
              have hsm : ∀ o ∈ u, m + (o : Int) ≤ 9223372036854775807 := fun o h => by
                have h1 := gr_ge h
                have h2 := ho.2.2
                omega
              have HAD := fun (v : Value) w (h : RdN .u64 w w.heap.size v u) => Lib.hid (addeach_any v u m _ w h (Nat.le_refl _) huc hz hsm)
              have HX := Lib.hid hx
              clear hB1 hB2 HA ho hsm hu hu64 hul hps hr hg hk hn hnn h2k hx
              generalize (u.map fun o : Nat => m + (o : Int)) = L at *
              go_enter Try.func31, Try.ntmps31
              go_wp2_with (first
                | (go_at_call 30; (with_reducible refine HG.out.mono ?_); rintro e w' ⟨rfl, rfl⟩)
                | (go_at_call 44; (with_reducible refine (HN _).out.mono ?_); rintro e w' ⟨rfl, rfl⟩))
              rw [HX.out]
              refine (HUN _).out.mono ?_; rintro e w1 ⟨v1, rfl, hown1, hb1⟩
              have hrd1 := hown1.read
              clear hown1 HUN HX
              go_wp2_with fail
              refine (HA' _ _ hrd1).out.mono ?_; rintro e w2 ⟨rfl, hb2⟩
              have hrd2 := hrd1.step hb2
              have hB := bel_trans hb1 hb2
              clear hrd1 hb1 hb2 HA'
              go_wp2_with fail
              refine (HAD _ _ hrd2).out.mono ?_; rintro e w3 ⟨v3, rfl, hown3, hb3⟩
              have hown := hown3.lower hB.size
              have hBB := bel_trans hB hb3
              clear hrd2 hown3 hb3 HAD
              go_wp2
              go_ret3
              exact RetG3.mk rfl hown hBB
            · rw [hB1 ho]
              have HA' := fun v w h => Lib.hid (HA v w h false (decide_eq_false ho).symm)
              have HX := Lib.hid hx
              clear hB1 hB2 HA ho hu hu64 hul hps hr hg hk hn hnn h2k hx
              go_enter Try.func31, Try.ntmps31
              go_wp2_with (first
                | (go_at_call 30; (with_reducible refine HG.out.mono ?_); rintro e w' ⟨rfl, rfl⟩)
                | (go_at_call 44; (with_reducible refine (HN _).out.mono ?_); rintro e w' ⟨rfl, rfl⟩))
              rw [HX.out]
              refine (HUN _).out.mono ?_; rintro e w1 ⟨v1, rfl, hown1, hb1⟩
              have hrd1 := hown1.read
              clear hown1 HUN HX
              go_wp2_with fail
              refine (HA' _ _ hrd1).out.mono ?_; rintro e w2 ⟨rfl, hb2⟩
              have hB := bel_trans hb1 hb2
              clear hrd1 hb1 hb2 HA'
              go_wp2
              go_ret3
              exact RetG3.mk rfl (OwnV.nil _ _ _ _) hB
          · have HUN := fun w => Lib.hid (bunpack_eq (pk s q n) (c : Int) (k : Int) w (unpackR_rest (n := c) (w := k) (by omega) hw (by rw [hps, hn]) hr))
            rw [getB_rest hg hb hk hw hn hsz hr]
            have HX := Lib.hid hx
            clear hg hk hn hnn hr hps hx
            generalize pk s q n = S at *
            generalize zagN (a : Int) = m at *
            go_enter Try.func31, Try.ntmps31
            go_wp2_with (first
              | (go_at_call 30; (with_reducible refine HG.out.mono ?_); rintro e w' ⟨rfl, rfl⟩)
              | (go_at_call 44; (with_reducible refine (HN _).out.mono ?_); rintro e w' ⟨rfl, rfl⟩))
            rw [HX.out]
            refine (HUN _).out.mono ?_; rintro e w1 ⟨v1, rfl, hown1, hb1⟩
            have hrd1 := hown1.read
            clear hown1 HUN HX
            clear hrd1
            go_wp2
            go_ret3
            exact RetG3.mk rfl (OwnV.nil _ _ _ _) hb1
        · rw [getB_short hg hb hk hw hn (by omega)]
          have hd : ¬ ((q : Int) + 1 + (n : Int) ≤ (s.size : Int)) := by omega
          clear hg hk hn hnn
          go_enter Try.func31, Try.ntmps31
          go_wp2_with (first
            | (go_at_call 30; (with_reducible refine HG.out.mono ?_); rintro e w' ⟨rfl, rfl⟩)
            | (go_at_call 44; (with_reducible refine (HN _).out.mono ?_); rintro e w' ⟨rfl, rfl⟩))
          go_ret3
          exact RetG3.mk rfl (OwnV.nil _ _ _ _) (Below.refl _ _)
      · rw [getB_w hg hb rfl (by omega)]
        clear hg
        generalize bN s q = k at *
        go_enter Try.func31, Try.ntmps31
        go_wp2_with (go_at_call 30; (with_reducible refine HG.out.mono ?_); rintro e w' ⟨rfl, rfl⟩)
        go_ret3
        exact RetG3.mk rfl (OwnV.nil _ _ _ _) (Below.refl _ _)
    · rw [getB_end hg (by omega)]
      have hd : ((q : Int) == (s.size : Int)) = true := by rw [beq_iff_eq]; omega
      clear hg
      go_enter Try.func31, Try.ntmps31
      go_wp2_with (go_at_call 30; (with_reducible refine HG.out.mono ?_); rintro e w' ⟨rfl, rfl⟩)
      go_ret3
      exact RetG3.mk rfl (OwnV.nil _ _ _ _) (Below.refl _ _)
  · rw [getB_e hg he]
    have HG := Lib.hid (getsig_e s p w hmx hg he)
    have hd : ((e : Int) != 0) = true := by simp; omega
    clear hg he
    go_enter Try.func31, Try.ntmps31
    go_wp2_with (go_at_call 30; (with_reducible refine HG.out.mono ?_); rintro e w' ⟨rfl, rfl⟩)
    go_ret3
    exact RetG3.mk rfl (OwnV.nil _ _ _ _) (Below.refl _ _)
end
end Go.Proofs.Ytjoohmifbkbpbaa
