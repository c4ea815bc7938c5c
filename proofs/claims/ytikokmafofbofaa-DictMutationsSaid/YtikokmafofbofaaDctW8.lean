/- The walks over the reference: EncodeDict. -/
import Derived.Test.YtikokmafofbofaaDctW7
import Derived.Test.YtikokmafofbofaaDctW4
namespace Go.Proofs.Ytikokmafofbofaa
open Go.RowKit Go.VB Go.VarM Go.BP Go.RL Go.DI
set_option maxRecDepth 100000 in
set_option maxHeartbeats 4000000 in
theorem rencode_any (v : Value) (l : List ByteArray) (B : Nat) (w : World) (hr : RdV Value.string w B v l) (hB : B ≤ w.heap.size) (hl : l.length ≤ 8796093022208) (hz : ∀ x ∈ l, x.size ≤ maxLen) (hs : (encD l).length ≤ 140737488355328) :
    Calls Try.prog 16 #[v] w (RetB (.string (str (encD l))) w) := by
  obtain ⟨A, c, _, rfl, rfl, hc1, hc2⟩ := hr.bds
  by_cases h4 : 4096 < l.length
  · have he := encD_out h4
    rw [he]
    have HR := Lib.hid hr; have HZ := Lib.hid hz
    clear hr hz hs he
    go_enter Try.func16, Try.ntmps16
    go_wp2_with fail
    go_ret
    exact RetB.mk rfl (Below.refl _ _)
  rw [encD_in (by omega)] at hs ⊢
  have HBD := Lib.hid (rbuild_any _ l B w hr hB hl)
  have hSl := srt_len l
  have hIl := idx_len l
  have hIlt := idx_lt l
  have hS0 := srt_nil_iff (l := l)
  have hSz : ∀ x ∈ srt l, x.size ≤ maxLen := fun x hx => hz x (srt_mem.1 hx)
  clear hr hz
  generalize srt l = S at *
  generalize idx l = I at *
  unfold encW at hs ⊢
  have HPUT := fun w' => Lib.hid (rput_any S.length w' (by omega))
  have hwd := wdt_le (k := S.length) (by omega)
  have hpk := packed_le (u := I) (w := wdt S.length) (by omega) hwd
  have hpr := packR_ok (l := I) (w := wdt S.length) (by omega) (by omega) (fun i hi => wdt_lt (hIlt i hi))
  have hi64 : ∀ x ∈ I, x < 2 ^ 64 := fun x hx => by have := hIlt x hx; omega
  have HPK := fun v' w' (h : RdN .u64 w' w'.heap.size v' I) => Lib.hid (rpack_eq v' I (wdt S.length : Nat) _ w' h (Nat.le_refl _) hi64 hpr)
  have hnil : S.length = 0 → packed I (wdt S.length) = [] := fun h => by
    have : I = [] := List.eq_nil_of_length_eq_zero (by omega)
    rw [this, packed_nil]
  have HNIL := Lib.hid hnil
  have HWI := Lib.hid (fun m (h : S.length = m + 1) w => (show Calls Try.prog 30 #[.int .u64 (m : Int)] w (Ret (.int .i64 (wdt S.length : Nat)) w) by
    have := rwidth_any m w (by omega)
    rwa [show wid m = wdt S.length by unfold wdt; rw [h]; rfl] at this))
  clear hnil hpr hi64
  generalize packed I (wdt S.length) = P at *
  have hput : (putL S.length).length ≤ 10 := putL_len10 (by omega)
  have HADD := fun w' => run_add_two (P := Try.prog) (putL S.length ++ wrds S) P (by rw [List.length_append] at hs; omega) w'
  rw [List.length_append, List.length_append] at hs
  have hww : (wrds S).length ≤ 140737488355328 := by omega
  generalize hT : putL S.length ++ wrds S ++ P = T at *
  have HT := Lib.hid hT; have HSZ := Lib.hid hSz; have HIL := Lib.hid hIlt; have HIE := Lib.hid hIl; have HS0 := Lib.hid hS0
  have hI4 : I.length ≤ 4096 := by omega
  clear hT hs hSz hIlt hIl hS0
  generalize wdt S.length = d at *
  go_enter Try.func16, Try.ntmps16
  go_wp2_with fail
  refine HBD.out.mono ?_
  rintro e w1 ⟨v1, v2, rfl, hr1, hr2, hb1⟩
  obtain ⟨A1, c1, _, rfl, rfl, hd1, hd2⟩ := hr1.bds
  obtain ⟨A2, c2, n2, rfl, hn2, he1, he2⟩ := hr2.bds
  clear HBD
  have HR1 := Lib.hid hr1; have HR2 := Lib.hid hr2; have HN2 := Lib.hid hn2
  have hn4 : n2 ≤ 4096 := by omega
  clear hr1 hr2 hn2
  go_wp2_with fail
  refine (HPUT _).out.mono ?_
  rintro e w2 ⟨rfl, hb2⟩
  clear HPUT
  go_wp2_with fail
  go_loopw [5, 27] (fun v i wr => ∃ (bs : List UInt8) (j : Nat), v = .string (str bs) ∧ i = .int .i64 j ∧ j ≤ S.length ∧ bs = putL S.length ++ wrds (S.take j) ∧ Below w1.heap.size w1 wr) (fun _ i _ => S.length - (intOf i).toNat)
  case atStart => exact ⟨_, 0, rfl, rfl, Nat.zero_le _, by rw [List.take_zero, wrds_nil, List.append_nil], hb2⟩
  case round =>
    clear hb2
    obtain ⟨bs, j, rfl, rfl, hj, hbs, hbel⟩ := hrel
    by_cases hlt : j < S.length
    · have hx : S[j]? = some S[j] := List.getElem?_eq_getElem hlt
      have hxs := HSZ.out _ (List.mem_of_getElem? hx)
      obtain ⟨ad, rfl, _, hgx⟩ := (HR1.out.below hbel).at hx
      have hw1 := wrds_take hx
      have hw2 := wrds_take_le S (j + 1)
      clear hx
      generalize S[j] = x at hgx hw1 hxs
      unfold maxLen at hxs
      have hnx : bs ++ wrd x = putL S.length ++ wrds (S.take (j + 1)) := by rw [hbs, hw1, List.append_assoc]
      have hlen := congrArg List.length hnx
      simp only [List.length_append, len_wrd] at hlen
      have HP := fun w' => Lib.hid (rput_any x.size w' (by omega))
      have ha1 : ∀ w', (Op.stringOp .add (str (putL x.size)) x).run Try.prog w' = .ok (.string (str (wrd x))) w' := fun w' => run_add_two (P := Try.prog) (putL x.size) x.data.toList (by rw [size_list]; omega) w'
      have ha2 := fun w' => run_add_two (P := Try.prog) bs (wrd x) (by rw [len_wrd]; omega) w'
      have HNX := Lib.hid hnx
      clear hnx hlen hw1 hw2 hbs HADD
      go_wp2_with (first
        | (go_at_call 28; (with_reducible refine (HP _).out.mono ?_); rintro e w4 ⟨rfl, hb⟩; replace hbel := hbel.trans (hb.mono hbel.size); clear hb))
      go_roundw
      case rel => exact ⟨_, j + 1, rfl, by go_num, hlt, HNX.out, hbel⟩
      case measure => simp [intOf] <;> omega
    · have hjn : j = S.length := by omega
      have hfin : bs = putL S.length ++ wrds S := by rw [hbs, hjn, List.take_length]
      rw [← hfin] at HADD
      have HF := Lib.hid hfin
      clear hjn hfin hbs
      rcases Nat.eq_zero_or_pos S.length with h0 | h0
      · have hP : P = [] := HNIL.out h0
        have HP0 := Lib.hid hP
        have hd : ((S.length : Int) == 0) = true := beq_iff_eq.2 (by omega)
        have hl0 : S.length ≤ 0 := by omega
        clear hP h0
        go_wp2_with fail
        go_ret
        exact RetB.mk (by rw [← HT.out, HP0.out, List.append_nil, ← HF.out]; rfl) (hb1.trans (hbel.mono hb1.size))
      · have hd : ((S.length : Int) == 0) = false := beq_eq_false_iff_ne.2 (by omega)
        obtain ⟨m, hm⟩ : ∃ m, S.length = m + 1 := ⟨S.length - 1, by omega⟩
        have HWM := Lib.hid (HWI.out m hm)
        have hm' : (S.length : Int) - 1 = (m : Int) := by omega
        have hm4 : m ≤ 4096 := by omega
        have hwz := hbel.size
        clear hm h0 HWI
        go_wp2_with fail
        go_loopw [8, 46] (fun v i wr => ∃ (j : Nat), i = .int .i64 j ∧ j ≤ I.length ∧ OwnV nU 46 wr w1.heap.size v (I.take j) ∧ Below w1.heap.size w1 wr) (fun _ i _ => I.length - (intOf i).toNat)
        case atStart => exact ⟨0, rfl, Nat.zero_le _, OwnV.nil _ _ _ _, hbel⟩
        case round =>
          clear hbel hwz
          obtain ⟨j, rfl, hj, hown, hbel⟩ := hrel
          have hn := HN2.out
          have hszr := hbel.size
          by_cases hjl : j < I.length
          · have hx : I[j]? = some I[j] := List.getElem?_eq_getElem hjl
            have hxk := HIL.out _ (List.mem_of_getElem? hx)
            obtain ⟨ad, rfl, _, hgx0⟩ := (HR2.out.below hbel).at hx
            have HTS := Lib.hid (Go.DI.take_snoc hx)
            have htl : (I.take j).length ≤ j := by rw [List.length_take]; omega
            have hjn : j < n2 := by omega
            clear hx hn
            generalize I[j] = x at hgx0 HTS hxk
            have hgx : wr.cell? (ad.add j) = some (.int .i64 (x : Int)) := hgx0
            clear hgx0
            go_wp2_with (first
              | (at_builtin; refine wpl_appV (f := nU) (fun _ => rfl) (.int .u64 0) rfl rfl _ _ 52 rfl w1.heap.size 46 8 Try.underlying52 Try.infoU64 _ (I.take j) rfl (hown.alloc _) (wr.heap.size + 1) _ [x] rfl (RdV.one nU _ x _ _ (by decide) (by decide)) (by unfold maxLen; simp only [List.length_cons, List.length_nil]; omega) (by simp only [List.length_cons, List.length_nil]; omega) (by simp; omega) ?_; intro v' w' hown' hb' _))
            go_roundw
            case rel => exact ⟨j + 1, by go_num, hjl, by rw [HTS.out]; exact hown', (hbel.alloc hszr _).trans hb'⟩
            case measure => simp [intOf] <;> omega
          · have hjn : I.take j = I := List.take_of_length_le (by omega)
            have hjn2 : n2 ≤ j := by omega
            have hrd := hown.read
            rw [hjn] at hrd
            obtain ⟨A5, k5, n5, rfl, -, -, -⟩ := hown.read.bds
            have HPA := Lib.hid (HPK _ _ (RdV.toN hrd)).out
            clear hjn hrd hown hn HPK
            go_wp2_with (first
              | (go_at_call 30; (with_reducible refine (HWM.out _).mono ?_); rintro e w' ⟨rfl, rfl⟩)
              | (go_at_call 29; (with_reducible refine HPA.out.mono ?_); rintro e w8 ⟨rfl, hb8⟩))
            go_ret
            exact RetB.mk (by rw [← HT.out, ← HF.out]; rfl) (bel_trans (hb1.trans (hbel.mono hb1.size)) hb8)
end Go.Proofs.Ytikokmafofbofaa
