/- The statements' own makers: lists of short texts; lists compared; the reference's DecodeDict on all arguments; the statements' example. -/
import Derived.Test.YtikokmafofbofaaSrc
import Derived.Test.YtikokmafofbofaaDctW9
namespace Go.DI
open Go.RowKit Go.VB
/-- A list of the call's own, of at most 120 texts of at most 3 bytes. -/
def ListP (e : TypeId) (w : World) : Ending → World → Prop := fun en w' => ∃ v l, en = .returned v ∧ OwnV Value.string e w' w.heap.size v l ∧ l.length ≤ 120 ∧ (∀ x ∈ l, x.size ≤ 3) ∧ Below w.heap.size w w'
theorem ListP.mk {e : TypeId} {w w' : World} {x v : Value} {l : List ByteArray} (hx : x = v) (ho : OwnV Value.string e w' w.heap.size v l) (hl : l.length ≤ 120) (hi : ∀ x ∈ l, x.size ≤ 3) (hb : Below w.heap.size w w') : ListP e w (.returned x) w' := ⟨v, l, by rw [hx], ho, hl, hi, hb⟩
end Go.DI
namespace Go.Proofs.Ytikokmafofbofaa
open Go.RowKit Go.VB Go.VarM Go.BP Go.RL Go.DI Go.KS
set_option maxRecDepth 100000 in
set_option maxHeartbeats 1000000 in
theorem same_s_eq (x y : Value) (l : List ByteArray) (B : Nat) (w : World) (hx : RdV Value.string w B x l) (hy : RdV Value.string w B y l) (hB : B ≤ w.heap.size) :
    Calls Try.prog 12 #[x, y] w (RetB (.bool true) w) := by
  obtain ⟨A, c, _, rfl, rfl, hc1, hc2⟩ := hx.bds
  obtain ⟨A', c', _, rfl, rfl, hd1, hd2⟩ := hy.bds
  have HX := Lib.hid hx; have HY := Lib.hid hy; clear hx hy
  go_enter Try.func12, Try.ntmps12
  go_wp2
  go_loopw [13] (fun i wr => ∃ j : Nat, i = .int .i64 j ∧ j ≤ l.length ∧ Below w.heap.size w wr) (fun i _ => l.length - (intOf i).toNat)
  case atStart => exact ⟨0, rfl, Nat.zero_le _, Below.refl _ _⟩
  case round =>
    obtain ⟨j, rfl, hj, hbel⟩ := hrel
    by_cases hlt : j < l.length
    · have hlj : l[j]? = some l[j] := List.getElem?_eq_getElem hlt
      obtain ⟨ad, rfl, _, hgx0⟩ := (HX.out.below (hbel.mono hB)).at hlj
      obtain ⟨ad', rfl, _, hgy0⟩ := (HY.out.below (hbel.mono hB)).at hlj
      clear hlj
      generalize l[j] = V at hgx0 hgy0
      have hgx : wr.cell? (ad.add j) = some (.string V) := hgx0
      have hgy : wr.cell? (ad'.add j) = some (.string V) := hgy0
      clear hgx0 hgy0
      have hd := text_eq (s := V) (t := V) rfl
      go_wp2_with fail
      go_region
      go_wp2_with fail
      go_roundw
      case rel => exact ⟨j + 1, by go_num, hlt, hbel.drew⟩
      case measure => simp [intOf] <;> omega
    · go_wp2
      go_ret
      exact RetB.mk rfl hbel
set_option maxRecDepth 100000 in
set_option maxHeartbeats 1000000 in
theorem same_n_eq (x y : Value) (l : List Nat) (B : Nat) (w : World) (hx : RdV nI w B x l) (hy : RdV nI w B y l) (hB : B ≤ w.heap.size) :
    Calls Try.prog 13 #[x, y] w (RetB (.bool true) w) := by
  obtain ⟨A, c, _, rfl, rfl, hc1, hc2⟩ := hx.bds
  obtain ⟨A', c', _, rfl, rfl, hd1, hd2⟩ := hy.bds
  have HX := Lib.hid hx; have HY := Lib.hid hy; clear hx hy
  go_enter Try.func13, Try.ntmps13
  go_wp2
  go_loopw [13] (fun i wr => ∃ j : Nat, i = .int .i64 j ∧ j ≤ l.length ∧ Below w.heap.size w wr) (fun i _ => l.length - (intOf i).toNat)
  case atStart => exact ⟨0, rfl, Nat.zero_le _, Below.refl _ _⟩
  case round =>
    obtain ⟨j, rfl, hj, hbel⟩ := hrel
    by_cases hlt : j < l.length
    · have hlj : l[j]? = some l[j] := List.getElem?_eq_getElem hlt
      obtain ⟨ad, rfl, _, hgx0⟩ := (HX.out.below (hbel.mono hB)).at hlj
      obtain ⟨ad', rfl, _, hgy0⟩ := (HY.out.below (hbel.mono hB)).at hlj
      clear hlj
      generalize l[j] = V at hgx0 hgy0
      have hgx : wr.cell? (ad.add j) = some (.int .i64 (V : Int)) := hgx0
      have hgy : wr.cell? (ad'.add j) = some (.int .i64 (V : Int)) := hgy0
      clear hgx0 hgy0
      have hd : ((V : Int) == (V : Int)) = true := beq_self_eq_true _
      go_wp2_with fail
      go_region
      go_wp2_with fail
      go_roundw
      case rel => exact ⟨j + 1, by go_num, hlt, hbel.drew⟩
      case measure => simp [intOf] <;> omega
    · go_wp2
      go_ret
      exact RetB.mk rfl hbel
set_option maxRecDepth 100000 in
set_option maxHeartbeats 4000000 in
theorem klist_any (W : World) (v : Value) (zl : List Int) (hr : RdI .i64 W W.heap.size v zl) (hw : ∀ z ∈ zl, (Lit.int .i64 z).wf = true) :
    Calls Try.prog 14 #[v] W (ListP 9 W) := by
  obtain ⟨A, c, rfl, hc, hm, hrr⟩ := hr
  have hr : RdI .i64 W W.heap.size (.slice A zl.length c) zl := ⟨A, c, rfl, hc, hm, hrr⟩
  have hS0 := Sr.made hr hw 66
  have hB0 := (Below.refl W.heap.size W).alloc (Nat.le_refl _) (.cells #[.slice A zl.length c, .int .i64 0] 66)
  clear hc hm hrr hr hw
  have HF := Lib.hid (kfrom_any A zl.length c W)
  go_enter Try.func14, Try.ntmps14
  go_wp2_with fail
  refine HF.out.mono ?_; rintro e w1 ⟨rfl, rfl⟩
  clear HF
  generalize W.alloc (.cells #[.slice A zl.length c, .int .i64 0] 66) = W1 at hS0 hB0
  go_wp2_with fail
  go_loopw [4] (fun v wr => ∃ l : List ByteArray, OwnV Value.string 9 wr (W.heap.size + 1) v l ∧ l.length ≤ 120 ∧ (∀ x ∈ l, x.size ≤ 3) ∧ Sr wr W.heap.size (.slice A zl.length c) zl ∧ Below W.heap.size W wr) (fun v _ => 400 - lenS v)
  case atStart => exact ⟨[], OwnV.nil _ _ _ _, by decide, fun _ h => by simp at h, hS0, hB0⟩
  case round =>
    obtain ⟨l, hown, hl, hI, hS, hbel⟩ := hrel
    obtain ⟨A0, c0, _, rfl, rfl, hc1, hc2⟩ := hown.read.bds
    go_wp2_with fail
    refine (kleft_any _ _ _ _ hS).mono ?_; rintro e w2 ⟨b, rfl, hS2, hB2⟩
    have hown2 := hB2.own hown (by omega)
    have hbel2 := hB2.below hbel (Nat.le_refl _)
    clear hown hbel hS hB2
    by_cases hgo : b = true ∧ l.length < 120
    · obtain ⟨rfl, hl3⟩ := hgo
      go_wp2_with fail
      refine (knext_any _ _ _ _ 4 hS2 (by omega) (by omega)).mono ?_; rintro e w4 ⟨r4, rfl, h4, hS4, hB4⟩
      have hown4 := hB4.own hown2 (by omega)
      have hbel4 := hB4.below hbel2 (Nat.le_refl _)
      clear hown2 hbel2 hB4 hS2
      obtain ⟨r4, rfl⟩ := Int.eq_ofNat_of_zero_le h4.1
      have h4b := h4.2
      clear h4
      go_wp2_with fail
      go_loopw [5, 6] (fun x k wk => ∃ (t : List UInt8) (m : Nat), x = .string (str t) ∧ k = .int .i64 m ∧ t.length + m ≤ 3 ∧ OwnV Value.string 9 wk (W.heap.size + 1) (.slice A0 l.length c0) l ∧ Sr wk W.heap.size (.slice A zl.length c) zl ∧ Below W.heap.size W wk) (fun _ k _ => (intOf k).toNat)
      case atStart => exact ⟨[], r4, rfl, rfl, by simp; omega, hown4, hS4, hbel4⟩
      case round =>
        obtain ⟨t, m, rfl, rfl, htm, hownj, hSj, hbelj⟩ := hrel
        have hszj := hbelj.size
        have hszs := hSj.lt
        by_cases hm0 : 0 < m
        · go_wp2_with fail
          refine (knext_any _ _ _ _ 3 hSj (by omega) (by omega)).mono ?_; rintro e w5 ⟨r5, rfl, h5, hS5, hB5⟩
          have hown5 := hB5.own hownj (by omega)
          have hbel5 := hB5.below hbelj (Nat.le_refl _)
          have hsz5 := hS5.lt
          have hszb := hbel5.size
          clear hownj hbelj hB5 hSj
          obtain ⟨r5, rfl⟩ := Int.eq_ofNat_of_zero_le h5.1
          have h5b := h5.2
          clear h5
          have hwr : IntKind.u8.wrap (97 + (r5 : Int)) = 97 + (r5 : Int) := by rw [IntKind.wrap_u8]; omega
          have hcv := run_string1 (P := Try.prog) 37 9 5 Try.underlying37 Try.underlying5 Try.underlying9 w5 (97 + (r5 : Int)) 1
          have had := run_add_str (P := Try.prog) t 3 (by omega) (by decide) (UInt8.ofNat (97 + (r5 : Int)).toNat)
          obtain ⟨ch, hch⟩ : ∃ ch : UInt8, UInt8.ofNat (97 + (r5 : Int)).toNat = ch := ⟨_, rfl⟩
          rw [hch] at hcv had
          clear hch
          go_wp2_with fail
          exact ⟨⟨t ++ [ch], m - 1, rfl, vint (by omega), by simp; omega, hown5.alloc _, hS5.below ((Below.refl (W.heap.size + 1) w5).alloc hsz5 _) (Nat.lt_succ_self _), hbel5.alloc hszb _⟩, by simp [intOf]; omega⟩
        · have ht3 : (str t).size ≤ 3 := by rw [str_size]; omega
          have hT : ∀ x ∈ l ++ [str t], x.size ≤ 3 := by
            intro x hx
            rcases List.mem_append.1 hx with hx | hx
            · exact hI x hx
            · rw [List.mem_singleton.1 hx]; exact ht3
          have HT := Lib.hid hT
          clear hT ht3 hI
          go_wp2_with (first
            | (at_builtin; refine wpl_appV (f := Value.string) (fun _ => rfl) (.string ⟨#[]⟩) rfl rfl _ _ 22 rfl (W.heap.size + 1) 9 16 Try.underlying22 Try.infStr _ l rfl (hownj.alloc _) (wr.heap.size + 1) _ [str t] rfl (RdV.one _ _ _ _ _ (by decide) (by decide)) (by unfold maxLen; simp only [List.length_cons, List.length_nil]; omega) (by simp only [List.length_cons, List.length_nil]; omega) (by simp; omega) ?_; intro v' w' hown' hb' _))
          have hba := ((Below.refl (W.heap.size + 1) wr).alloc hszs (.cells #[.string (str t)] 9)).trans hb'
          have hll := hown'.read.len
          rw [List.length_append] at hll
          have HLL := Lib.hid hll
          clear hll
          go_roundw
          case rel => exact ⟨l ++ [str t], hown', by rw [List.length_append]; simp only [List.length_cons, List.length_nil]; omega, HT.out, hSj.below hba (Nat.lt_succ_self _), hbelj.trans (hba.mono (by omega))⟩
          case measure => rw [HLL.out]; simp only [lenS, List.length_cons, List.length_nil]; omega
    · rcases Bool.eq_false_or_eq_true b with rfl | rfl
      · have hl3 : ¬ l.length < 120 := fun h => hgo ⟨rfl, h⟩
        clear hgo
        go_wp2
        go_ret
        exact ListP.mk rfl (hown2.lower (by omega)) hl hI hbel2
      · clear hgo
        go_wp2
        go_ret
        exact ListP.mk rfl (hown2.lower (by omega)) hl hI hbel2
section
variable (s : ByteArray) (hs : s.size ≤ 140737488351232)
include hs
set_option maxRecDepth 100000 in
set_option maxHeartbeats 1000000 in
theorem rdecode_any (n : Int) (w : World) :
    Calls Try.prog 31 #[.string s, .int .i64 n] w (RetVE Value.string 9 (decD s n).1 (decD s n).2 w) := by
  have hmx : s.size ≤ maxLen := by unfold maxLen; omega
  have h1 := fun w => rsz_any n w
  by_cases hr : n < 0 ∨ 4096 < n
  · rw [decD_out hr]
    rw [decide_eq_false (by omega)] at h1
    have HSZ := fun w => Lib.hid (h1 w); clear h1
    go_enter Try.func31, Try.ntmps31
    go_wp2_with (go_at_call 40; (with_reducible refine (HSZ _).out.mono ?_); rintro e w' ⟨rfl, rfl⟩)
    go_ret2
    exact RetVE.mk rfl (OwnV.nil _ _ _ _) (Below.refl _ _)
  obtain ⟨n, rfl⟩ := Int.eq_ofNat_of_zero_le (show 0 ≤ n by omega)
  have hn : n ≤ 4096 := by omega
  rw [decide_eq_true (by omega)] at h1
  have HSZ := fun w => Lib.hid (h1 w); clear h1
  clear hr
  obtain ⟨a, b, c, hg⟩ : ∃ a b c, getR s 0 = (a, b, c) := ⟨_, _, _, rfl⟩
  by_cases hc : c = 0
  · subst hc
    obtain ⟨k, m, e1, e2, e3, e4, e5, e6⟩ := getR_zero hg
    obtain ⟨b, rfl⟩ : ∃ b' : Nat, b = b' := ⟨k + m, by omega⟩
    by_cases hk : a ≤ n ∧ (a = 0 → n = 0)
    · rcases Nat.eq_zero_or_pos a with h0 | h0
      · exact rdecode_in s hs n a b w hn hg (by omega) hk true (by simp; omega) (fun _ => by have := hk.2 h0; omega)
      · exact rdecode_in s hs n a b w hn hg (by omega) hk false (by simp; omega) (fun h => by cases h)
    · clear e1 e2 e3 e4 e5 e6
      rw [decD_k hn hg (by omega)]
      have HG := fun w => Lib.hid (rget_ok s 0 w hmx hg)
      by_cases hna : n < a
      · have hna' : (n : Int) < (a : Int) := by omega
        clear hg hk
        go_enter Try.func31, Try.ntmps31
        go_wp2_with (first
          | (go_at_call 40; (with_reducible refine (HSZ _).out.mono ?_); rintro e w' ⟨rfl, rfl⟩)
          | (go_at_call 41; (with_reducible refine (HG _).out.mono ?_); rintro e w' ⟨rfl, rfl⟩))
        go_ret2
        exact RetVE.mk rfl (OwnV.nil _ _ _ _) (Below.refl _ _)
      · have ha0 : a = 0 := by omega
        have hn0 : 0 < n := by omega
        subst ha0
        clear hg hk hna
        go_enter Try.func31, Try.ntmps31
        go_wp2_with (first
          | (go_at_call 40; (with_reducible refine (HSZ _).out.mono ?_); rintro e w' ⟨rfl, rfl⟩)
          | (go_at_call 41; (with_reducible refine (HG _).out.mono ?_); rintro e w' ⟨rfl, rfl⟩))
        go_ret2
        exact RetVE.mk rfl (OwnV.nil _ _ _ _) (Below.refl _ _)
  · rw [decD_e hn hg hc]
    have HG := fun w => Lib.hid (rget_is s 0 w hmx hg)
    have hdc : ((c : Int) != 0) = true := by simp; omega
    clear hg hc
    go_enter Try.func31, Try.ntmps31
    go_wp2_with (first
      | (go_at_call 40; (with_reducible refine (HSZ _).out.mono ?_); rintro e w' ⟨rfl, rfl⟩)
      | (go_at_call 41; (with_reducible refine (HG _).out.mono ?_); rintro e w' ⟨rfl, rfl⟩))
    go_ret2
    exact RetVE.mk rfl (OwnV.nil _ _ _ _) (Below.refl _ _)
end
theorem srt_bab : srt [⟨#[98]⟩, ⟨#[97]⟩, ⟨#[98]⟩] = [⟨#[97]⟩, ⟨#[98]⟩] := by
  refine (srt_is ?_ ?_).symm
  · refine List.pairwise_cons.2 ⟨fun x hx => ?_, Asc.one _⟩
    rw [List.mem_singleton.1 hx]; unfold lts; rw [ByteArray.toList_eq, ByteArray.toList_eq]; decide
  · intro x
    simp only [List.mem_cons, List.not_mem_nil, or_false]
    constructor
    · rintro (h | h)
      · exact .inr (.inl h)
      · exact .inl h
    · rintro (h | h | h)
      · exact .inr h
      · exact .inl h
      · exact .inr h
theorem idx_bab : idx [⟨#[98]⟩, ⟨#[97]⟩, ⟨#[98]⟩] = [1, 0, 1] := by
  have h1 : lts ⟨#[97]⟩ ⟨#[98]⟩ = true := by unfold lts; rw [ByteArray.toList_eq, ByteArray.toList_eq]; decide
  have e1 : plc ⟨#[98]⟩ [⟨#[97]⟩, ⟨#[98]⟩] = 1 := by
    rw [plc, if_pos h1, plc, if_neg (by rw [lts_irr]; decide)]
  have e0 : plc ⟨#[97]⟩ [⟨#[97]⟩, ⟨#[98]⟩] = 0 := by
    rw [plc, if_neg (by rw [lts_irr]; decide)]
  unfold idx
  rw [srt_bab]
  simp only [List.map_cons, List.map_nil, e1, e0]
theorem enc_bab : str (encD [⟨#[98]⟩, ⟨#[97]⟩, ⟨#[98]⟩]) = ⟨#[2, 1, 97, 1, 98, 5]⟩ := by
  rw [encD_in (by decide), srt_bab, idx_bab]
  have e1 : wdt 2 = 1 := by unfold wdt; rw [show (2 : Nat) - 1 = 1 from rfl, wid_pos (by decide), show 1 / 2 = 0 from rfl, wid_zero]
  unfold encW wrds wrd
  simp only [List.length_cons, List.length_nil, List.map_cons, List.map_nil, e1]
  rw [putL_lt (by decide), putL_lt (by decide), putL_lt (by decide)]
  decide +kernel
theorem bab_lit (e : TypeId) (m : Nat) (hm : 3 ≤ m) (hm2 : m ≤ maxLen) (w : World) : RdV Value.string (w.alloc (.cells #[.string ⟨#[98]⟩, .string ⟨#[97]⟩, .string ⟨#[98]⟩] e)) (w.heap.size + 1) (.slice (some ⟨w.heap.size, 0, none⟩) 3 m) [⟨#[98]⟩, ⟨#[97]⟩, ⟨#[98]⟩] :=
  RdV.lit Value.string w [⟨#[98]⟩, ⟨#[97]⟩, ⟨#[98]⟩] m e hm hm2
theorem encbab_any (e : TypeId) (m : Nat) (hm : 3 ≤ m) (hm2 : m ≤ maxLen) (w : World) :
    Calls Try.prog 11 #[.slice (some ⟨w.heap.size, 0, none⟩) 3 m] (w.alloc (.cells #[.string ⟨#[98]⟩, .string ⟨#[97]⟩, .string ⟨#[98]⟩] e)) (RetB (.string ⟨#[2, 1, 97, 1, 98, 5]⟩) (w.alloc (.cells #[.string ⟨#[98]⟩, .string ⟨#[97]⟩, .string ⟨#[98]⟩] e))) := by
  have hl : (encD [⟨#[98]⟩, ⟨#[97]⟩, ⟨#[98]⟩]).length ≤ 140737488355328 := by rw [← str_size, enc_bab]; decide
  have h := encode_any _ [⟨#[98]⟩, ⟨#[97]⟩, ⟨#[98]⟩] _ _ (bab_lit e m hm hm2 w) (by simp) (by decide) (by intro x hx; simp at hx; rcases hx with rfl | rfl | rfl <;> decide) hl
  rw [enc_bab] at h
  exact h
set_option maxRecDepth 100000 in
set_option maxHeartbeats 400000 in
theorem awake10_any (w : World) : Calls Try.prog 17 #[] w (RetB (.bool true) w) := by
  go_enter Try.func17, Try.ntmps17
  go_wp2_with fail
  refine (encbab_any _ _ (by decide) (by decide) _).mono ?_
  rintro e w' ⟨rfl, hb⟩
  have hb' := ((Below.refl w.heap.size w).alloc (Nat.le_refl _) (.cells #[.string ⟨#[98]⟩, .string ⟨#[97]⟩, .string ⟨#[98]⟩] 9)).trans (hb.mono (by simp))
  clear hb
  go_wp2
  go_ret
  exact RetB.mk rfl hb'
set_option maxRecDepth 100000 in
set_option maxHeartbeats 1000000 in
theorem decodes_any (s : ByteArray) (n : Int) (w : World) (hs : s.size ≤ 140737488351232) :
    Calls Try.prog 18 #[.string s, .int .i64 n] w (RetB (.bool true) w) := by
  have H1 := fun w => Lib.hid (decode_any s hs n w)
  have H2 := fun w => Lib.hid (rdecode_any s hs n w)
  generalize decD s n = R at *
  go_enter Try.func18, Try.ntmps18
  go_wp2_with fail
  refine (H1 _).out.mono ?_; rintro e w1 ⟨v1, rfl, hown1, hB⟩
  have hr1 := hown1.read
  clear hown1
  go_wp2_with fail
  refine (H2 _).out.mono ?_; rintro e w2 ⟨v2, rfl, hown2, hb⟩
  have hr2 := hown2.read
  replace hr1 := hr1.step hb
  replace hB := bel_trans hB hb
  clear hown2 hb
  go_wp2_with fail
  refine (same_s_eq _ _ R.1 _ _ hr1 hr2 (Nat.le_refl _)).mono ?_; rintro e w3 ⟨rfl, hb⟩
  replace hB := bel_trans hB hb
  clear hb hr1 hr2
  go_wp2
  go_ret
  exact RetB.mk rfl hB
end Go.Proofs.Ytikokmafofbofaa
