/- The walks over package dict: the packed indices, Encode. -/
import Derived.Test.YtnmlajmaffiigaaGreatDoorGd
import Derived.Test.YtnmlajmaffiigaaGreatDoorGo
namespace Go.DI
open Go.RowKit Go.VB
def nU (n : Nat) : Value := .int .u64 (n : Int)
theorem RdV.toN {w : World} {B : Nat} {v : Value} {l : List Nat} (h : RdV nU w B v l) : RdN .u64 w B v l := by
  obtain ⟨A, c, hv, hc, hm, hr⟩ := h
  refine ⟨A, c, hv, hc, hm, fun i hi => ?_⟩
  obtain ⟨ad, h1, h2, h3⟩ := hr i l[i] (List.getElem?_eq_getElem hi)
  refine ⟨ad, h1, h2, ?_⟩
  rw [h3, List.getD_eq_getElem?_getD, List.getElem?_eq_getElem hi]; rfl
theorem run_add_two {P : Program} (a b : List UInt8) (h : a.length + b.length ≤ 4611686018427387904) (w : World) : (Op.stringOp .add (str a) (str b)).run P w = .ok (.string (str (a ++ b))) w := by
  rw [run_string_add_sum w (str a) (str b) (by rw [str_size, str_size]; omega), str_append]
end Go.DI
namespace Go.Proofs.YtnmlajmaffiigaaGreatDoor
open Go.RowKit Go.VB Go.VarM Go.BP Go.RL Go.DI
set_option maxHeartbeats 400000 in
theorem iwidth_any (k : Nat) (w : World) (hk : k ≤ 4611686018427387904) : Calls Tryz.prog 242 #[.int .i64 (k : Int)] w (Ret (.int .i64 (wdt k : Nat)) w) := by
  rcases Nat.eq_zero_or_pos k with h0 | h0
  · subst h0
    have HW : Hid (Calls Tryz.prog 255 #[.int .u64 0] w (Ret (.int .i64 (wid 0 : Nat)) w)) := Lib.hid (bwidth_any 0 w (by decide))
    change Calls Tryz.prog 242 #[.int .i64 0] w (Ret (.int .i64 (wid 0 : Nat)) w)
    go_enter Tryz.func242, Tryz.ntmps242
    go_wp2_with (go_at_call 255; (with_reducible refine HW.out.mono ?_); rintro e w' ⟨rfl, rfl⟩)
    go_ret
    exact Ret.mk rfl
  · obtain ⟨m, rfl⟩ : ∃ m, k = m + 1 := ⟨k - 1, by omega⟩
    have HW := Lib.hid (bwidth_any m w (by omega))
    have he : wdt (m + 1) = wid m := rfl
    rw [he]
    clear he
    generalize wid m = d at *
    have h1 : (1 : Int) ≤ (m : Int) + 1 := by omega
    have h2 : ¬ ((m : Int) + 1 < 1) := by omega
    have h3 : (m : Int) + 1 - 1 = m := by omega
    go_enter Tryz.func242, Tryz.ntmps242
    go_wp2_with (go_at_call 255; (with_reducible refine HW.out.mono ?_); rintro e w' ⟨rfl, rfl⟩)
    go_ret
    exact Ret.mk rfl
set_option maxRecDepth 100000 in
set_option maxHeartbeats 2000000 in
theorem pidx_any (v : Value) (u : List Nat) (k : Nat) (B : Nat) (w : World) (hr : RdV nI w B v u) (hB : B ≤ w.heap.size) (hu : u.length ≤ 4096) (hlt : ∀ i ∈ u, i < k) (hk : k ≤ 4096) :
    Calls Tryz.prog 229 #[v, .int .i64 (k : Int)] w (RetB (.string (str (packed u (wdt k)))) w) := by
  obtain ⟨A, c, _, rfl, rfl, hc1, hc2⟩ := hr.bds
  have hmk := run_makeV (P := Tryz.prog) (t := 228) (z := .int .u64 0) rfl Tryz.underlying228 Tryz.infoU64 u.length (by omega) (by unfold maxLen; omega) w
  have hrow := RowV.made nU 0 96 w w.heap.size u.length (Nat.le_refl _) (by unfold maxLen; omega)
  have hb2 := (Below.refl w.heap.size w).alloc (Nat.le_refl _) (.cells (madeCells #[.int .u64 0] u.length) 96)
  change RowV nU 96 (w.alloc (.cells (madeCells #[.int .u64 0] u.length) 96)) w.heap.size w.heap.size u.length _ at hrow
  have hwd := wdt_le hk
  have hpk := packR_ok (l := u) (w := wdt k) (by omega) hu (fun i hi => wdt_lt (hlt i hi))
  have hu64 : ∀ x ∈ u, x < 2 ^ 64 := fun x hx => by have := hlt x hx; omega
  have HPK := fun v' w' (h : RdN .u64 w' w'.heap.size v' u) => Lib.hid (bpack_eq v' u (wdt k : Nat) _ w' h (Nat.le_refl _) hu64 hpk)
  have HIW := fun w' => Lib.hid (iwidth_any k w' (by omega))
  have HLT := Lib.hid hlt; have HR := Lib.hid hr
  clear hlt hr hpk hu64
  generalize wdt k = d at *
  generalize str (packed u d) = T at *
  generalize w.alloc (.cells (madeCells #[.int .u64 0] u.length) 96) = w1 at hmk hrow hb2
  go_enter Tryz.func229, Tryz.ntmps229
  go_wp2_with fail
  go_loopw [15] (fun i wr => ∃ (j : Nat) (L : List Nat), i = .int .i64 j ∧ j ≤ u.length ∧ RowV nU 96 wr w.heap.size w.heap.size u.length L ∧ L = u.take j ++ List.replicate (u.length - j) 0 ∧ Below w.heap.size w wr) (fun i _ => u.length - (intOf i).toNat)
  case atStart => exact ⟨0, _, rfl, Nat.zero_le _, hrow, fill_start u u.length 0, hb2⟩
  case round =>
    clear hrow hb2 hmk
    obtain ⟨j, L, rfl, hj, hrow, hL, hbel⟩ := hrel
    have HL := Lib.hid hL; clear hL
    by_cases hjl : j < u.length
    · have hx : u[j]? = some u[j] := List.getElem?_eq_getElem hjl
      obtain ⟨ad, rfl, _, hgx0⟩ := (HR.out.below (hbel.mono hB)).at hx
      have hxk := HLT.out _ (List.mem_of_getElem? hx)
      have HSE := Lib.hid (fill_set (z := 0) rfl hjl hx)
      clear hx
      generalize u[j] = x at hgx0 hxk HSE
      have hgx : wr.cell? (ad.add j) = some (.int .i64 (x : Int)) := hgx0
      have hst : RowV nU 96 (wr.setCell ⟨w.heap.size, j, none⟩ (.int .u64 (x : Int))) w.heap.size w.heap.size u.length (L.set j x) := hrow.store j x
      have hfr := hrow.frozen j
      have hlL : L.length = u.length := by rw [HL.out]; exact fill_len rfl hj
      have hLj : L[j]? = some (L[j]'(by omega)) := List.getElem?_eq_getElem _
      have hcl0 := hrow.cell j _ hLj
      generalize L[j]'_ = old at hcl0
      have hcl : wr.cell? ⟨w.heap.size, j, none⟩ = some (.int .u64 (old : Int)) := hcl0
      have hbel2 : Below w.heap.size w (wr.setCell ⟨w.heap.size, j, none⟩ (.int .u64 (x : Int))) := hbel.setCell (p := ⟨w.heap.size, j, none⟩) (Nat.le_refl _) _
      have HST := Lib.hid hst; have HBE := Lib.hid hbel2
      clear hgx0 hcl0 hLj hst hbel2
      go_wp2_with fail
      go_roundw
      case rel => exact ⟨j + 1, L.set j x, by go_num, hjl, HST.out, by rw [HL.out]; exact HSE.out, HBE.out⟩
      case measure => simp [intOf] <;> omega
    · have hjn : j = u.length := by omega
      have hfin : L = u := by rw [HL.out, hjn]; exact fill_end rfl
      subst hfin
      have hrd : RdN .u64 wr wr.heap.size (.slice (some ⟨w.heap.size, 0, none⟩) L.length L.length) L := (RdV.toN hrow.read)
      have HP := Lib.hid (HPK _ _ hrd).out
      clear hjn HPK
      go_wp2_with (first
        | (go_at_call 242; (with_reducible refine (HIW _).out.mono ?_); rintro e w' ⟨rfl, rfl⟩)
        | (go_at_call 253; (with_reducible refine HP.out.mono ?_); rintro e w3 ⟨rfl, hb3⟩))
      go_ret
      exact RetB.mk rfl (bel_trans hbel hb3)
theorem len_wrd (w : ByteArray) : (wrd w).length = (putL w.size).length + w.size := by unfold wrd; rw [List.length_append, size_list]
set_option maxRecDepth 100000 in
set_option maxHeartbeats 4000000 in
theorem dictenc_any (v : Value) (l : List ByteArray) (B : Nat) (w : World) (hr : RdV Value.string w B v l) (hB : B ≤ w.heap.size) (hl : l.length ≤ 8796093022208) (hz : ∀ x ∈ l, x.size ≤ maxLen) (hs : (encD l).length ≤ 140737488355328) :
    Calls Tryz.prog 198 #[v] w (RetB (.string (str (encD l))) w) := by
  obtain ⟨A, c, _, rfl, rfl, hc1, hc2⟩ := hr.bds
  by_cases h4 : 4096 < l.length
  · have he := encD_out h4
    rw [he]
    have HR := Lib.hid hr; have HZ := Lib.hid hz
    clear hr hz hs he
    go_enter Tryz.func198, Tryz.ntmps198
    go_wp2_with fail
    go_ret
    exact RetB.mk rfl (Below.refl _ _)
  rw [encD_in (by omega)] at hs ⊢
  have HBD := Lib.hid (build_any _ l B w hr hB hl hz)
  have hSl := srt_len l
  have hIl := idx_len l
  have hIlt := idx_lt l
  have hSz : ∀ x ∈ srt l, x.size ≤ maxLen := fun x hx => hz x (srt_mem.1 hx)
  clear hr hz
  generalize srt l = S at *
  generalize idx l = I at *
  unfold encW at hs ⊢
  have HPX := fun va w' (h : RdV nI w' w'.heap.size va I) => Lib.hid (pidx_any va I S.length _ w' h (Nat.le_refl _) (by omega) hIlt (by omega))
  have HPUT := fun w' => Lib.hid (vput_any S.length w' (by omega))
  have hpk := packed_le (u := I) (w := wdt S.length) (by omega) (wdt_le (by omega))
  generalize packed I (wdt S.length) = P at *
  have hput : (putL S.length).length ≤ 10 := putL_len10 (by omega)
  have hstr := str_size (putL S.length)
  have HADD := fun w' => run_add_two (P := Tryz.prog) (putL S.length ++ wrds S) P (by rw [List.length_append] at hs; omega) w'
  rw [List.length_append, List.length_append] at hs
  have hww : (wrds S).length ≤ 140737488355328 := by omega
  generalize hT : putL S.length ++ wrds S ++ P = T at *
  have HT := Lib.hid hT; clear hT
  have HSZ := Lib.hid hSz; have HIL := Lib.hid hIlt
  have HSTR := Lib.hid hstr
  clear hs hSz hIlt hstr hIl
  go_enter Tryz.func198, Tryz.ntmps198
  go_wp2_with fail
  refine HBD.out.mono ?_
  rintro e w1 ⟨v1, v2, rfl, hr1, hr2, hb1⟩
  obtain ⟨A1, c1, _, rfl, rfl, hd1, hd2⟩ := hr1.bds
  clear HBD
  have HR1 := Lib.hid hr1; have HR2 := Lib.hid hr2; clear hr1 hr2
  go_wp2_with fail
  refine (HPUT _).out.mono ?_
  rintro e w2 ⟨rfl, hb2⟩
  have hsz2 := hb2.size
  obtain ⟨ve, w3, hcv, hown, hb3⟩ := run_bytes_F (P := Tryz.prog) w2 w1.heap.size 9 41 5 (str (putL S.length)) Tryz.underlying9 Tryz.underlying41 Tryz.underlying5 (by rw [HSTR.out]; omega) hsz2
  have hb13 := hb2.trans (hb3.mono hsz2)
  clear HPUT hb2 hb3
  go_wp2_with fail
  clear hcv
  go_loopw [5, 23] (fun v i wr => ∃ (bs : List UInt8) (j : Nat), i = .int .i64 j ∧ j ≤ S.length ∧ OwnF wr w1.heap.size v bs ∧ bs = putL S.length ++ wrds (S.take j) ∧ Below w1.heap.size w1 wr) (fun _ i _ => S.length - (intOf i).toNat)
  case atStart => exact ⟨_, 0, rfl, Nat.zero_le _, hown, by rw [List.take_zero, wrds_nil, List.append_nil]; rfl, hb13⟩
  case round =>
    clear hown hb13 hsz2
    obtain ⟨bs, j, rfl, hj, hown, hbs, hbel⟩ := hrel
    by_cases hlt : j < S.length
    · have hx : S[j]? = some S[j] := List.getElem?_eq_getElem hlt
      have hxs := HSZ.out _ (List.mem_of_getElem? hx)
      obtain ⟨ad, rfl, _, hgx⟩ := (HR1.out.below hbel).at hx
      have hw1 := wrds_take hx
      have hw2 := wrds_take_le S (j + 1)
      clear hx
      generalize S[j] = x at hgx hw1 hxs
      unfold maxLen at hxs
      have hnx : bs ++ wrd x = putL S.length ++ wrds (S.take (j + 1)) := by rw [hbs, hw1, List.append_assoc]
      have hlen := congrArg List.length hnx
      simp only [List.length_append, len_wrd] at hlen
      have HP := fun w' => Lib.hid (vput_any x.size w' (by omega))
      have H1 : bs.length + (str (putL x.size)).size ≤ 225179981368000 := by rw [str_size]; omega
      have H2 : (bs ++ (str (putL x.size)).data.toList).length + x.size ≤ 225179981368000 := by rw [List.length_append, str_toList]; omega
      have H1' := Lib.hid H1; have H2' := Lib.hid H2; have HNX := Lib.hid hnx
      clear H1 H2 hnx hlen hw1 hw2 hbs
      go_wp2_with (first
        | (go_at_call 83; (with_reducible refine (HP _).out.mono ?_); rintro e w4 ⟨rfl, hb⟩; replace hown := hown.below hb; replace hbel := hbel.trans (hb.mono hbel.size); clear hb)
        | (at_builtin; refine wpl_appF rfl _ _ 41 9 rfl w1.heap.size 5 Tryz.underlying41 Tryz.underlying9 Tryz.infoU8 _ bs rfl hown _ rfl H1'.out hbel.size ?_; intro v5 w5 hown5 hb; clear hown; have hown := hown5; clear hown5; replace hbel := hbel.trans hb; clear hb)
        | (at_builtin; refine wpl_appF rfl _ _ 41 9 rfl w1.heap.size 5 Tryz.underlying41 Tryz.underlying9 Tryz.infoU8 _ (bs ++ (str (putL x.size)).data.toList) rfl hown _ rfl H2'.out hbel.size ?_; intro v6 w6 hown6 hb; clear hown; have hown := hown6; clear hown6; replace hbel := hbel.trans hb; clear hb))
      go_roundw
      case rel => exact ⟨_, j + 1, by go_num, hlt, hown, by rw [← HNX.out, wrd, List.append_assoc]; rfl, hbel⟩
      case measure => simp [intOf] <;> omega
    · have hjn : j = S.length := by omega
      have hfin : bs = putL S.length ++ wrds S := by rw [hbs, hjn, List.take_length]
      have hr2 := (HR2.out.below hbel).more hbel.size
      have hcv := run_string_of_F (P := Tryz.prog) 41 9 5 Tryz.underlying41 Tryz.underlying5 Tryz.underlying9 hown.drew
      have hcv2 := fun w' (hb : Below wr.drew.heap.size wr.drew w') => run_string_of_F (P := Tryz.prog) 41 9 5 Tryz.underlying41 Tryz.underlying5 Tryz.underlying9 (hown.drew.below hb)
      rw [← hfin] at HADD
      have HPA := Lib.hid (HPX v2 wr.drew hr2).out
      have HF := Lib.hid hfin; have HBEL := Lib.hid hbel
      clear hjn hfin hbs hr2 hown hbel HPX
      have HCV2 := Lib.hid hcv2
      clear hcv2
      go_wp2_with fail
      go_region_with (first | (go_at_call 229; (with_reducible refine HPA.out.mono ?_); rintro e w7 ⟨rfl, hb7⟩; have hcv7 := HCV2.out _ hb7))
      all_goals go_wp2
      all_goals go_ret
      all_goals exact RetB.mk (by rw [← HT.out]; first | rfl | (rw [HF.out]; rfl)) (bel_trans (hb1.trans (HBEL.out.mono hb1.size)).drew hb7)
end Go.Proofs.YtnmlajmaffiigaaGreatDoor

namespace Go.VB
open Go.RowKit
end Go.VB
namespace Go.DI
open Go.RowKit Go.VB
/-- Which words are used by the first j indices. -/
def UOk (n : Nat) (u : List Nat) (j : Nat) (U : List Bool) : Prop := U.length = n ∧ ∀ m, m < n → U[m]? = some (decide (m ∈ u.take j))
theorem UOk.step {n : Nat} {u : List Nat} {j x : Nat} {U : List Bool} (h : UOk n u j U) (hx : u[j]? = some x) (hn : x < n) : UOk n u (j + 1) (U.set x true) := by
  refine ⟨by rw [List.length_set]; exact h.1, fun m hm => ?_⟩
  rw [take_snoc hx]
  by_cases he : m = x
  · subst he
    rw [List.getElem?_set_self (by rw [h.1]; exact hm)]; simp
  · rw [List.getElem?_set_ne (fun e => he e.symm), h.2 m hm]; simp [he]
theorem UOk.same {n : Nat} {u : List Nat} {j x : Nat} {U : List Bool} (h : UOk n u j U) (hx : u[j]? = some x) (hn : x < n) (hu : U[x]? = some true) : UOk n u (j + 1) U := by
  have h1 := h.step hx hn
  have he : U.set x true = U := by
    obtain ⟨hi, e⟩ := List.getElem?_eq_some_iff.1 hu
    rw [← e, List.set_getElem_self]
  rwa [he] at h1
theorem UOk.none {n : Nat} {u : List Nat} {j : Nat} {U : List Bool} (h : UOk n u j U) (hj : u.length ≤ j) (h0 : U.count false = 0) : ∀ m, m < n → m ∈ u := by
  intro m hm
  have h1 := h.2 m hm
  rw [List.take_of_length_le hj] at h1
  by_cases hmu : m ∈ u
  · exact hmu
  · rw [decide_eq_false hmu] at h1
    have := List.count_pos_iff.2 (List.mem_of_getElem? h1)
    omega
theorem UOk.some {n : Nat} {u : List Nat} {j : Nat} {U : List Bool} (h : UOk n u j U) (hj : u.length ≤ j) (h0 : 0 < U.count false) : ∃ m, m < n ∧ m ∉ u := by
  obtain ⟨m, hm, he⟩ := List.mem_iff_getElem.1 (List.count_pos_iff.1 h0)
  have hm' : m < n := by rw [← h.1]; exact hm
  refine ⟨m, hm', fun hmu => ?_⟩
  have h1 := h.2 m hm'
  rw [List.take_of_length_le hj, decide_eq_true hmu, List.getElem?_eq_getElem hm, he] at h1
  cases h1
end Go.DI
namespace Go.Proofs.YtnmlajmaffiigaaGreatDoor
open Go.RowKit Go.VB Go.VarM Go.BP Go.RL Go.DI
section
variable (s : ByteArray) (p : Int) (w : World) (hs : s.size ≤ 140737488351232)
include hs
end
end Go.Proofs.YtnmlajmaffiigaaGreatDoor

namespace Go.Proofs.YtnmlajmaffiigaaGreatDoor
open Go.RowKit Go.VB Go.VarM Go.BP Go.RL Go.DI
section
variable (s : ByteArray) (hs : s.size ≤ 140737488351232)
include hs
end
end Go.Proofs.YtnmlajmaffiigaaGreatDoor

namespace Go.VB
open Go.RowKit
end Go.VB
namespace Go.Proofs.YtnmlajmaffiigaaGreatDoor
open Go.RowKit Go.VB Go.VarM Go.BP Go.RL Go.DI
end Go.Proofs.YtnmlajmaffiigaaGreatDoor
