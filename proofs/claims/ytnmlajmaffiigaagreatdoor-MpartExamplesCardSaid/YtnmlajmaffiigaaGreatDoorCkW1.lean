/- The walks over package chunk: codecsOf, isType, slices.Contains, checkAll. -/
import Derived.Test.YtnmlajmaffiigaaGreatDoorChk
import Derived.Test.YtnmlajmaffiigaaGreatDoorGd
import Derived.Test.YtnmlajmaffiigaaGreatDoorGe
import Derived.Test.YtnmlajmaffiigaaGreatDoorGw
import Derived.Test.YtnmlajmaffiigaaGreatDoorGr
import Derived.Test.YtnmlajmaffiigaaGreatDoorGq
import Derived.Test.YtnmlajmaffiigaaGreatDoorGl
import Derived.Deep.RegionWith
namespace Go.CK
open Go.RowKit Go.VB Go.VarM Go.BP Go.RL Go.VS Go.VL Go.DI
/-- The codecs of a type. -/
def cds (typ : Int) : List Nat := if typ = 3 then [1, 3] else if okT typ then [1, 2, 4] else []
theorem cds_o {typ : Int} (h : okT typ = false) : cds typ = [] := by
  unfold cds
  rw [if_neg (by rintro rfl; cases h), h]; rfl
theorem okT_o {typ : Int} (h1 : ¬ typ = 1) (h2 : ¬ typ = 2) (h3 : ¬ typ = 3) (h4 : ¬ typ = 4) (h5 : ¬ typ = 5) : okT typ = false := decide_eq_false (by omega)
theorem okT_five {typ : Int} (h : okT typ = true) : typ = 1 ∨ typ = 2 ∨ typ = 3 ∨ typ = 4 ∨ typ = 5 := by
  have := of_decide_eq_true h
  omega
theorem cds_len (typ : Int) : decide ((0 : Int) < ((cds typ).length : Int)) = okT typ := by
  cases h : okT typ with
  | false => rw [cds_o h]; rfl
  | true => rcases okT_five h with rfl | rfl | rfl | rfl | rfl <;> rfl
/-- It returns a list that can be read; what was there is as it was. -/
def RetRd {α : Type} (f : α → Value) (l : List α) (w : World) : Ending → World → Prop := fun en w' => ∃ v, en = .returned v ∧ RdV f w' w'.heap.size v l ∧ Below w.heap.size w w'
theorem RetRd.mk {α : Type} {f : α → Value} {l : List α} {w w' : World} {x v : Value} (hx : x = v) (hr : RdV f w' w'.heap.size v l) (hb : Below w.heap.size w w') : RetRd f l w (.returned x) w' := ⟨v, by rw [hx], hr, hb⟩
end Go.CK
namespace Go.Proofs.YtnmlajmaffiigaaGreatDoor
open Go.RowKit Go.VB Go.VarM Go.BP Go.RL Go.VS Go.VL Go.DI Go.CK
set_option maxRecDepth 100000 in
set_option maxHeartbeats 1000000 in
theorem codecs_any (typ : Int) (w : World) : Calls Tryz.prog 155 #[.int .i64 typ] w (RetRd nI (cds typ) w) := by
  by_cases h3 : typ = 3
  · subst h3
    have hr := RdV.lit nI w [1, 3] 2 3 (by decide) (by decide)
    have HR := Lib.hid (hr.more (B' := (w.alloc (.cells (([1, 3] : List Nat).map nI).toArray 3)).heap.size) (by simp))
    clear hr
    go_enter Tryz.func155, Tryz.ntmps155
    go_wp2
    go_ret
    exact RetRd.mk rfl HR.out ((Below.refl _ _).alloc (Nat.le_refl _) _)
  have e3 := ieq_f h3
  by_cases h1 : typ = 1
  · subst h1
    have hr := RdV.lit nI w [1, 2, 4] 3 3 (by decide) (by decide)
    have HR := Lib.hid (hr.more (B' := (w.alloc (.cells (([1, 2, 4] : List Nat).map nI).toArray 3)).heap.size) (by simp))
    clear hr
    go_enter Tryz.func155, Tryz.ntmps155
    go_wp2
    go_ret
    exact RetRd.mk rfl HR.out ((Below.refl _ _).alloc (Nat.le_refl _) _)
  have e1 := ieq_f h1
  by_cases h2 : typ = 2
  · subst h2
    have hr := RdV.lit nI w [1, 2, 4] 3 3 (by decide) (by decide)
    have HR := Lib.hid (hr.more (B' := (w.alloc (.cells (([1, 2, 4] : List Nat).map nI).toArray 3)).heap.size) (by simp))
    clear hr
    go_enter Tryz.func155, Tryz.ntmps155
    go_wp2
    go_ret
    exact RetRd.mk rfl HR.out ((Below.refl _ _).alloc (Nat.le_refl _) _)
  have e2 := ieq_f h2
  by_cases h4 : typ = 4
  · subst h4
    have hr := RdV.lit nI w [1, 2, 4] 3 3 (by decide) (by decide)
    have HR := Lib.hid (hr.more (B' := (w.alloc (.cells (([1, 2, 4] : List Nat).map nI).toArray 3)).heap.size) (by simp))
    clear hr
    go_enter Tryz.func155, Tryz.ntmps155
    go_wp2
    go_ret
    exact RetRd.mk rfl HR.out ((Below.refl _ _).alloc (Nat.le_refl _) _)
  have e4 := ieq_f h4
  by_cases h5 : typ = 5
  · subst h5
    have hr := RdV.lit nI w [1, 2, 4] 3 3 (by decide) (by decide)
    have HR := Lib.hid (hr.more (B' := (w.alloc (.cells (([1, 2, 4] : List Nat).map nI).toArray 3)).heap.size) (by simp))
    clear hr
    go_enter Tryz.func155, Tryz.ntmps155
    go_wp2
    go_ret
    exact RetRd.mk rfl HR.out ((Below.refl _ _).alloc (Nat.le_refl _) _)
  have e5 := ieq_f h5
  rw [cds_o (okT_o h1 h2 h3 h4 h5)]
  clear h1 h2 h3 h4 h5
  go_enter Tryz.func155, Tryz.ntmps155
  go_wp2
  go_ret
  exact RetRd.mk rfl (RdV.nil _ _ _) (Below.refl _ _)
set_option maxRecDepth 100000 in
set_option maxHeartbeats 1000000 in
theorem cisType_any (typ : Int) (w : World) : Calls Tryz.prog 117 #[.int .i64 typ] w (RetB (.bool (okT typ)) w) := by
  have HC := fun w => Lib.hid (codecs_any typ w)
  have hd : decide (0 < (cds typ).length) = okT typ := by rw [← cds_len typ]; exact decide_eq_decide.2 (by omega)
  generalize cds typ = l at *
  generalize okT typ = b at *
  go_enter Tryz.func117, Tryz.ntmps117
  go_wp2_with fail
  refine (HC _).out.mono ?_; rintro e w1 ⟨v, rfl, hr, hb⟩
  obtain ⟨A, c, rfl, h1, h2, -⟩ := hr
  clear h1 h2 HC
  go_wp2
  go_ret
  exact RetB.mk rfl hb
set_option maxRecDepth 100000 in
set_option maxHeartbeats 2000000 in
theorem checkAll_any (nm : ByteArray) (ty sc : Int) (nu : Bool) (v : Value) (l : List Vl) (W : World) (hr : RdL W W.heap.size v l) :
    Calls Tryz.prog 118 #[(.agg #[.string nm, .int .i64 ty, .int .i64 sc, .bool nu]), v] W (RetB (.int .i64 (firstE ty nu l : Nat)) W) := by
  obtain ⟨A, c, _, rfl, rfl, hc1, hc2⟩ := hr.bds
  have HR := Lib.hid hr; clear hr
  have HV := Lib.hid (Var4.new W (.string nm) (.int .i64 ty) (.int .i64 sc) (.bool nu) 62)
  have HB1 := Lib.hid ((Below.refl W.heap.size W).alloc (Nat.le_refl _) (.cells #[.string nm, .int .i64 ty, .int .i64 sc, .bool nu] 62))
  have HS1 := Lib.hid (show (W.alloc (.cells #[.string nm, .int .i64 ty, .int .i64 sc, .bool nu] 62)).heap.size = W.heap.size + 1 from by simp)
  have HH := fun i x => Lib.hid (firstE_hit (typ := ty) (nu := nu) (l := l) (i := i) (x := x))
  have HM := Lib.hid (firstE_none (typ := ty) (nu := nu) (l := l))
  generalize firstE ty nu l = E at *
  go_enter Tryz.func118, Tryz.ntmps118
  go_wp2
  go_loopw [4, 6, 7, 10] (fun r _ _ i wr => ∃ j : Nat, r = .int .i64 0 ∧ i = .int .i64 j ∧ j ≤ l.length ∧ Below (W.heap.size + 1) (W.alloc (.cells #[.string nm, .int .i64 ty, .int .i64 sc, .bool nu] 62)) wr ∧ ∀ m y, m < j → l[m]? = some y → chkV ty nu y = 0) (fun _ _ _ i _ => l.length - (intOf i).toNat)
  case atStart => exact ⟨0, rfl, rfl, Nat.zero_le _, Below.refl _ _, fun m y h => absurd h (Nat.not_lt_zero _)⟩
  case round =>
    obtain ⟨j, rfl, rfl, hj, hbel, hf⟩ := hrel
    have HF := Lib.hid hf; clear hf
    have hbW : Below W.heap.size W wr := HB1.out.trans (hbel.mono (Nat.le_succ _))
    have hsz := hbel.size
    rw [HS1.out] at hsz
    by_cases hlt : j < l.length
    · have hlj : l[j]? = some l[j] := List.getElem?_eq_getElem hlt
      obtain ⟨ad, rfl, _, q0, q1, q2⟩ := (HR.out.below hbW).at hlj
      have HJ := Lib.hid hlj; clear hlj
      generalize l[j] = X at q0 q1 q2 HJ
      obtain ⟨xb, xn, xs⟩ := X
      simp only at q0 q1 q2
      obtain ⟨v0, v1, v2, v3⟩ := HV.out.below (hbel.alloc hsz (.cells #[.bool xb, .int .i64 xn, .string xs] 49)) (Nat.lt_succ_self _)
      have hbv := hbel.alloc hsz (.cells #[.bool xb, .int .i64 xn, .string xs] 49)
      have hsv : (wr.alloc (.cells #[.bool xb, .int .i64 xn, .string xs] 49)).heap.size = wr.heap.size + 1 := by simp
      have HBV := Lib.hid hbv; have HSV := Lib.hid hsv; clear hbv hsv
      go_wp2_with fail
      refine (chk_any nm ty sc nu xb xn xs _).mono ?_; rintro e w2 ⟨rfl, hb2⟩
      have hb3 := HBV.out.trans (hb2.mono (by rw [HSV.out]; omega))
      obtain ⟨C, hC⟩ : ∃ C, chkV ty nu ⟨xb, xn, xs⟩ = C := ⟨_, rfl⟩
      have hC' : chk ty nu xb xn xs = C := hC
      rw [hC']
      have HC := Lib.hid hC
      clear hC hC' hb2 HBV q0 q1 q2 v0 v1 v2 v3
      by_cases h0 : C = 0
      · subst h0
        have HN := Lib.hid (show ∀ m y, m < j + 1 → l[m]? = some y → chkV ty nu y = 0 from fun m y hm hy => by
          by_cases e : m = j
          · subst e; rw [HJ.out] at hy; obtain rfl := Option.some.inj hy; exact HC.out
          · exact HF.out m y (by omega) hy)
        go_wp2_with fail
        go_roundw
        case rel => exact ⟨j + 1, rfl, by go_num, hlt, hb3, HN.out⟩
        case measure => simp [intOf] <;> omega
      · have hd : ((C : Int) != 0) = true := ine_t (by omega)
        have HE := Lib.hid (((HH j _).out HJ.out (by rw [HC.out]; exact h0) (fun m y hm hy => HF.out m y hm hy)).trans HC.out)
        clear h0 HH HM HF
        go_wp2_with fail
        go_ret
        exact RetB.mk (by rw [HE.out]; rfl) (HB1.out.trans (hb3.mono (Nat.le_succ _)))
    · have HE := Lib.hid (HM.out (fun x hx => by
        obtain ⟨m, hm, rfl⟩ := List.mem_iff_getElem.1 hx
        exact HF.out m _ (by omega) (List.getElem?_eq_getElem hm)))
      clear HH HM HF
      go_wp2
      go_ret
      exact RetB.mk (by rw [HE.out]; rfl) hbW
end Go.Proofs.YtnmlajmaffiigaaGreatDoor

namespace Go.CK
open Go.RowKit Go.VB Go.VS
theorem take_map_snoc {α β : Type} {f : α → β} {l : List α} {j : Nat} {x : α} (h : l[j]? = some x) : (l.take (j + 1)).map f = (l.take j).map f ++ [f x] := by
  rw [List.take_add_one, h, List.map_append]; rfl
theorem take_map_len {α β : Type} (f : α → β) {l : List α} {j : Nat} (h : j ≤ l.length) : ((l.take j).map f).length = j := by
  rw [List.length_map, List.length_take]; omega
theorem take_map_all {α β : Type} (f : α → β) {l : List α} {j : Nat} (h : j = l.length) : (l.take j).map f = l.map f := by
  rw [h, List.take_length]
end Go.CK
namespace Go.Proofs.YtnmlajmaffiigaaGreatDoor
open Go.RowKit Go.VB Go.VarM Go.BP Go.RL Go.VS Go.VL Go.DI Go.CK
set_option maxRecDepth 100000 in
set_option maxHeartbeats 2000000 in
theorem numsOf_any (v : Value) (l : List Vl) (W : World) (hr : RdL W W.heap.size v l) (hl : l.length ≤ 1000000) :
    Calls Tryz.prog 197 #[v] W (RetV (Value.int .i64) 2 (l.map Vl.n) W) := by
  obtain ⟨A, c, _, rfl, rfl, hc1, hc2⟩ := hr.bds
  have HR := Lib.hid hr; clear hr
  have hmk := run_makeV (P := Tryz.prog) (z := (.int .i64 0)) rfl Tryz.underlying197 Tryz.infI64 l.length (by omega) (by unfold maxLen; omega)
  have hrow := RowV.made (Value.int .i64) (0:Int) 2 W W.heap.size l.length (Nat.le_refl _) (by unfold maxLen; omega)
  have hb0 : Below W.heap.size W (W.alloc (.cells (madeCells #[(Value.int .i64) (0:Int)] l.length) 2)) := (Below.refl _ _).alloc (Nat.le_refl _) _
  have hmk1 := hmk W
  generalize hW : (W.alloc (.cells (madeCells #[(Value.int .i64) (0:Int)] l.length) 2)) = W1 at hrow hb0
  have hmk2 : (Instr.makeSlice 197 (.int .i64 (l.length : Int)) (.int .i64 (l.length : Int))).run Tryz.prog W = .ok (.slice (some ⟨W.heap.size, 0, none⟩) l.length l.length) W1 := by rw [← hW]; exact hmk1
  clear hmk hmk1 hW
  go_enter Tryz.func197, Tryz.ntmps197
  go_wp2
  clear hmk2
  go_loopw [11] (fun i wr => ∃ (j : Nat) (ls : List Int), i = .int .i64 j ∧ j ≤ l.length ∧ RowV (Value.int .i64) 2 wr W.heap.size W.heap.size l.length ls ∧ ls.length = l.length ∧ ls = (l.take j).map Vl.n ++ List.replicate (l.length - j) (0:Int) ∧ Below W.heap.size W wr) (fun i _ => l.length - (intOf i).toNat)
  case atStart => exact ⟨0, _, rfl, Nat.zero_le _, hrow, List.length_replicate, by simp, hb0⟩
  case round =>
    clear hrow hb0
    obtain ⟨j, ls, rfl, hj, hrw, hlen, hls, hbel⟩ := hrel
    have HL := Lib.hid hlen; have HLS := Lib.hid hls; clear hlen hls
    by_cases hlt : j < l.length
    · have hlj : l[j]? = some l[j] := List.getElem?_eq_getElem hlt
      obtain ⟨ad, rfl, _, q0, q1, q2⟩ := (HR.out.below hbel).at hlj
      have HJ := Lib.hid hlj; clear hlj
      generalize l[j] = X at q0 q1 q2 HJ
      obtain ⟨xb, xn, xs⟩ := X
      simp only at q0 q1 q2
      have hrv := hrw.alloc (.cells #[.bool xb, .int .i64 xn, .string xs] 49)
      have hbv := hbel.alloc hbel.size (.cells #[.bool xb, .int .i64 xn, .string xs] 49)
      have hold := fill_at HLS.out (take_map_len Vl.n hj) hlt
      have hcell := hrv.cell j _ hold
      have hfro := hrv.frozen j
      have hst := (hrw.store j xn).alloc (.cells #[.bool xb, .int .i64 xn, .string xs] 49)
      have hgw := hrw.lt.2
      have HSN := Lib.hid (fill_snoc (x := xn) HLS.out (take_map_len Vl.n hj) hlt)
      have HTK := Lib.hid (take_map_snoc (f := Vl.n) HJ.out)
      have HRS := Lib.hid hst
      have HBV := Lib.hid ((hbel.setCell (p := ⟨W.heap.size, j, none⟩) (Nat.le_refl _) (.int .i64 xn)).alloc (by rw [World.size_setCell]; exact hbel.size) (.cells #[.bool xb, .int .i64 xn, .string xs] 49))
      clear hst hrv hrw hold hbv
      go_wp2_with fail
      go_roundw
      case rel => exact ⟨j + 1, _, by go_num, hlt, HRS.out, by rw [List.length_set]; exact HL.out, by rw [HSN.out, HTK.out], HBV.out⟩
      case measure => simp [intOf] <;> omega
    · have HF := Lib.hid (show ls = l.map Vl.n by rw [HLS.out, take_map_all Vl.n (by omega), show l.length - j = 0 by omega, List.replicate_zero, List.append_nil])
      go_wp2
      go_ret
      exact RetV.mk rfl (hrw.own_at HL.out HF.out) hbel
set_option maxRecDepth 100000 in
set_option maxHeartbeats 2000000 in
theorem txtsOf_any (v : Value) (l : List Vl) (W : World) (hr : RdL W W.heap.size v l) (hl : l.length ≤ 1000000) :
    Calls Tryz.prog 199 #[v] W (RetV Value.string 9 (l.map Vl.s) W) := by
  obtain ⟨A, c, _, rfl, rfl, hc1, hc2⟩ := hr.bds
  have HR := Lib.hid hr; clear hr
  have hmk := run_makeV (P := Tryz.prog) (z := (.string ⟨#[]⟩)) rfl Tryz.underlying81 Tryz.infStr l.length (by omega) (by unfold maxLen; omega)
  have hrow := RowV.made Value.string (⟨#[]⟩:ByteArray) 9 W W.heap.size l.length (Nat.le_refl _) (by unfold maxLen; omega)
  have hb0 : Below W.heap.size W (W.alloc (.cells (madeCells #[Value.string (⟨#[]⟩:ByteArray)] l.length) 9)) := (Below.refl _ _).alloc (Nat.le_refl _) _
  have hmk1 := hmk W
  generalize hW : (W.alloc (.cells (madeCells #[Value.string (⟨#[]⟩:ByteArray)] l.length) 9)) = W1 at hrow hb0
  have hmk2 : (Instr.makeSlice 81 (.int .i64 (l.length : Int)) (.int .i64 (l.length : Int))).run Tryz.prog W = .ok (.slice (some ⟨W.heap.size, 0, none⟩) l.length l.length) W1 := by rw [← hW]; exact hmk1
  clear hmk hmk1 hW
  go_enter Tryz.func199, Tryz.ntmps199
  go_wp2
  clear hmk2
  go_loopw [11] (fun i wr => ∃ (j : Nat) (ls : List ByteArray), i = .int .i64 j ∧ j ≤ l.length ∧ RowV Value.string 9 wr W.heap.size W.heap.size l.length ls ∧ ls.length = l.length ∧ ls = (l.take j).map Vl.s ++ List.replicate (l.length - j) (⟨#[]⟩:ByteArray) ∧ Below W.heap.size W wr) (fun i _ => l.length - (intOf i).toNat)
  case atStart => exact ⟨0, _, rfl, Nat.zero_le _, hrow, List.length_replicate, by simp, hb0⟩
  case round =>
    clear hrow hb0
    obtain ⟨j, ls, rfl, hj, hrw, hlen, hls, hbel⟩ := hrel
    have HL := Lib.hid hlen; have HLS := Lib.hid hls; clear hlen hls
    by_cases hlt : j < l.length
    · have hlj : l[j]? = some l[j] := List.getElem?_eq_getElem hlt
      obtain ⟨ad, rfl, _, q0, q1, q2⟩ := (HR.out.below hbel).at hlj
      have HJ := Lib.hid hlj; clear hlj
      generalize l[j] = X at q0 q1 q2 HJ
      obtain ⟨xb, xn, xs⟩ := X
      simp only at q0 q1 q2
      have hrv := hrw.alloc (.cells #[.bool xb, .int .i64 xn, .string xs] 49)
      have hbv := hbel.alloc hbel.size (.cells #[.bool xb, .int .i64 xn, .string xs] 49)
      have hold := fill_at HLS.out (take_map_len Vl.s hj) hlt
      have hcell := hrv.cell j _ hold
      have hfro := hrv.frozen j
      have hst := (hrw.store j xs).alloc (.cells #[.bool xb, .int .i64 xn, .string xs] 49)
      have hgw := hrw.lt.2
      have HSN := Lib.hid (fill_snoc (x := xs) HLS.out (take_map_len Vl.s hj) hlt)
      have HTK := Lib.hid (take_map_snoc (f := Vl.s) HJ.out)
      have HRS := Lib.hid hst
      have HBV := Lib.hid ((hbel.setCell (p := ⟨W.heap.size, j, none⟩) (Nat.le_refl _) (.string xs)).alloc (by rw [World.size_setCell]; exact hbel.size) (.cells #[.bool xb, .int .i64 xn, .string xs] 49))
      clear hst hrv hrw hold hbv
      go_wp2_with fail
      go_roundw
      case rel => exact ⟨j + 1, _, by go_num, hlt, HRS.out, by rw [List.length_set]; exact HL.out, by rw [HSN.out, HTK.out], HBV.out⟩
      case measure => simp [intOf] <;> omega
    · have HF := Lib.hid (show ls = l.map Vl.s by rw [HLS.out, take_map_all Vl.s (by omega), show l.length - j = 0 by omega, List.replicate_zero, List.append_nil])
      go_wp2
      go_ret
      exact RetV.mk rfl (hrw.own_at HL.out HF.out) hbel
end Go.Proofs.YtnmlajmaffiigaaGreatDoor

namespace Go.CK
open Go.RowKit Go.VB Go.VS
theorem bv_mod {n : Nat} (c : Nat) (h : c % 256 = n) : bv (UInt8.ofNat n) = .int .u8 ((n : Nat) : Int) := by
  show Value.int .u8 ((UInt8.ofNat n).toNat : Int) = _
  rw [← h, u8_mod]
end Go.CK
namespace Go.Proofs.YtnmlajmaffiigaaGreatDoor
open Go.RowKit Go.VB Go.VarM Go.BP Go.RL Go.VS Go.VL Go.DI Go.CK Go.CR
set_option maxRecDepth 100000 in
set_option maxHeartbeats 2000000 in
theorem checksum_any (s : ByteArray) (W : World) (zs : s.size ≤ 140737488351232) : Calls Tryz.prog 122 #[.string s] W (RetB (.string (str (four (crcL s.data.toList)))) W) := by
  have hS := fun v w (h : RdN .u32 w w.heap.size v tab) => csum_any v tab s w h Go.CR.tab_lt zs
  have hcl := crcL_lt s.data.toList
  unfold crcL at *
  generalize sumL tab s.data.toList = c at *
  have HS := Lib.hid hS; clear hS
  have hz : (Value.int .u8 0) = bv 0 := rfl
  go_enter Tryz.func122, Tryz.ntmps122
  go_wp2_with fail
  refine (ctable_any _).mono ?_
  rintro e w1 ⟨v, rfl, hown, hB⟩
  go_wp2_with fail
  refine (HS.out v w1 hown.read).mono ?_
  rintro e w2 ⟨rfl, rfl⟩
  clear HS
  have hmk := run_makeV (P := Tryz.prog) (z := .int .u8 0) rfl Tryz.underlying41 Tryz.inf8 4 (by omega) (by decide) w1
  have hrow := RowV.made bv 0 5 w1 w1.heap.size 4 (Nat.le_refl _) (by decide)
  have hb0 : Below w1.heap.size w1 (w1.alloc (.cells (madeCells #[.int .u8 0] 4) 5)) := (Below.refl _ _).alloc (Nat.le_refl _) _
  change RowV bv 5 (w1.alloc (.cells (madeCells #[.int .u8 0] 4) 5)) w1.heap.size w1.heap.size 4 (List.replicate 4 0) at hrow
  have hmk1 : (Instr.makeSlice 41 (.int .i64 4) (.int .i64 4)).run Tryz.prog w1 = .ok (.slice (some ⟨w1.heap.size, 0, none⟩) 4 4) (w1.alloc (.cells (madeCells #[.int .u8 0] 4) 5)) := hmk
  clear hmk hown
  generalize w1.alloc (.cells (madeCells #[.int .u8 0] 4) 5) = W2 at *
  go_wp2
  clear hmk1
  go_loopw [12] (fun i wr => ∃ (j : Nat) (ls : List UInt8), i = .int .i64 j ∧ j ≤ 4 ∧ RowV bv 5 wr w1.heap.size w1.heap.size 4 ls ∧ ls.length = 4 ∧ ls = (four c).take j ++ List.replicate (4 - j) 0 ∧ Below w1.heap.size w1 wr) (fun i _ => 4 - (intOf i).toNat)
  case atStart => exact ⟨0, _, rfl, Nat.zero_le _, hrow, rfl, rfl, hb0⟩
  case round =>
    clear hrow hb0
    obtain ⟨j, ls, rfl, hj, hrw, hlen, hls, hbel⟩ := hrel
    have HL := Lib.hid hlen; have HLS := Lib.hid hls; clear hlen hls
    have h4 : j = 0 ∨ j = 1 ∨ j = 2 ∨ j = 3 ∨ j = 4 := by omega
    rcases h4 with rfl | rfl | rfl | rfl | rfl
    · have hc := hrw.cell 0 0 (by rw [HLS.out]; rfl)
      have hfz := hrw.frozen 0
      have ev : bv (UInt8.ofNat (c % 256)) = .int .u8 ((c:Int)%256) := by rw [bv_mod c rfl]; congr 1 <;> omega
      have hst := hrw.store 0 (UInt8.ofNat (c % 256))
      rw [ev] at hst
      have HST := Lib.hid hst
      have HN := Lib.hid (show ls.set 0 (UInt8.ofNat (c % 256)) = (four c).take (0 + 1) ++ List.replicate (4 - (0 + 1)) 0 by rw [HLS.out]; rfl)
      have hgl := hrw.lt.2
      clear hst ev hrw
      go_wp2_with fail
      go_roundw
      case rel => exact ⟨0 + 1, _, by go_num, by omega, HST.out, by rw [List.length_set]; exact HL.out, HN.out, hbel.setCell (Nat.le_refl _) _⟩
      case measure => simp [intOf] <;> omega
    · have hc := hrw.cell 1 0 (by rw [HLS.out]; rfl)
      have hfz := hrw.frozen 1
      have ev : bv (UInt8.ofNat ((c/256) % 256)) = .int .u8 ((c:Int)/256%256) := by rw [bv_mod (c/256) rfl]; congr 1 <;> omega
      have hst := hrw.store 1 (UInt8.ofNat ((c/256) % 256))
      rw [ev] at hst
      have HST := Lib.hid hst
      have HN := Lib.hid (show ls.set 1 (UInt8.ofNat ((c/256) % 256)) = (four c).take (1 + 1) ++ List.replicate (4 - (1 + 1)) 0 by rw [HLS.out]; rfl)
      have hgl := hrw.lt.2
      clear hst ev hrw
      go_wp2_with fail
      go_roundw
      case rel => exact ⟨1 + 1, _, by go_num, by omega, HST.out, by rw [List.length_set]; exact HL.out, HN.out, hbel.setCell (Nat.le_refl _) _⟩
      case measure => simp [intOf] <;> omega
    · have hc := hrw.cell 2 0 (by rw [HLS.out]; rfl)
      have hfz := hrw.frozen 2
      have ev : bv (UInt8.ofNat ((c/65536) % 256)) = .int .u8 ((c:Int)/65536%256) := by rw [bv_mod (c/65536) rfl]; congr 1 <;> omega
      have hst := hrw.store 2 (UInt8.ofNat ((c/65536) % 256))
      rw [ev] at hst
      have HST := Lib.hid hst
      have HN := Lib.hid (show ls.set 2 (UInt8.ofNat ((c/65536) % 256)) = (four c).take (2 + 1) ++ List.replicate (4 - (2 + 1)) 0 by rw [HLS.out]; rfl)
      have hgl := hrw.lt.2
      clear hst ev hrw
      go_wp2_with fail
      go_roundw
      case rel => exact ⟨2 + 1, _, by go_num, by omega, HST.out, by rw [List.length_set]; exact HL.out, HN.out, hbel.setCell (Nat.le_refl _) _⟩
      case measure => simp [intOf] <;> omega
    · have hc := hrw.cell 3 0 (by rw [HLS.out]; rfl)
      have hfz := hrw.frozen 3
      have ev : bv (UInt8.ofNat ((c/16777216) % 256)) = .int .u8 ((c:Int)/16777216) := by rw [bv_mod (c/16777216) rfl]; congr 1 <;> omega
      have hst := hrw.store 3 (UInt8.ofNat ((c/16777216) % 256))
      rw [ev] at hst
      have HST := Lib.hid hst
      have HN := Lib.hid (show ls.set 3 (UInt8.ofNat ((c/16777216) % 256)) = (four c).take (3 + 1) ++ List.replicate (4 - (3 + 1)) 0 by rw [HLS.out]; rfl)
      have hgl := hrw.lt.2
      clear hst ev hrw
      go_wp2_with fail
      go_roundw
      case rel => exact ⟨3 + 1, _, by go_num, by omega, HST.out, by rw [List.length_set]; exact HL.out, HN.out, hbel.setCell (Nat.le_refl _) _⟩
      case measure => simp [intOf] <;> omega
    · have hF : ls = four c := by rw [HLS.out]; rfl
      have hown : OwnB 5 wr w1.heap.size (.slice (some ⟨w1.heap.size, 0, none⟩) 4 4) (four c) := by
        have := hrw.own_at HL.out hF
        exact this
      have hcv := run_string_of_own (P := Tryz.prog) 41 9 5 Tryz.underlying41 Tryz.underlying5 Tryz.underlying9 hown
      clear hrw hown hF
      generalize str (four c) = S at *
      go_wp2
      go_ret
      exact RetB.mk rfl (bel_trans hB hbel)
end Go.Proofs.YtnmlajmaffiigaaGreatDoor
