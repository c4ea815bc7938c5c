/- The walks over package chunk and the reference: the numbers and the texts of values, and back. -/
import Derived.Test.YtbolbbngncnecaaGreatCkW1
import Derived.Test.YtbolbbngncnecaaGreatG9
import Derived.Test.YtbolbbngncnecaaGreatVlsM
namespace Go.CK
open Go.RowKit Go.VB Go.VS
theorem take_map_snoc {α β : Type} {f : α → β} {l : List α} {j : Nat} {x : α} (h : l[j]? = some x) : (l.take (j + 1)).map f = (l.take j).map f ++ [f x] := by
  rw [List.take_add_one, h, List.map_append]; rfl
theorem take_map_len {α β : Type} (f : α → β) {l : List α} {j : Nat} (h : j ≤ l.length) : ((l.take j).map f).length = j := by
  rw [List.length_map, List.length_take]; omega
theorem take_map_all {α β : Type} (f : α → β) {l : List α} {j : Nat} (h : j = l.length) : (l.take j).map f = l.map f := by
  rw [h, List.take_length]
/-- A value with a number alone, with a text alone. -/
def ofN (n : Int) : Vl := ⟨false, n, ⟨#[]⟩⟩
def ofS (s : ByteArray) : Vl := ⟨false, 0, s⟩
end Go.CK
namespace Go.Proofs.YtbolbbngncnecaaGreat
open Go.RowKit Go.VB Go.VarM Go.BP Go.RL Go.VS Go.VL Go.DI Go.CK
set_option maxRecDepth 100000 in
set_option maxHeartbeats 2000000 in
theorem numsOf_any (v : Value) (l : List Vl) (W : World) (hr : RdL W W.heap.size v l) (hl : l.length ≤ 1000000) :
    Calls Tryz.prog 72 #[v] W (RetV (Value.int .i64) 2 (l.map Vl.n) W) := by
  obtain ⟨A, c, _, rfl, rfl, hc1, hc2⟩ := hr.bds
  have HR := Lib.hid hr; clear hr
  have hmk := run_makeV (P := Tryz.prog) (z := (.int .i64 0)) rfl Tryz.underlying70 Tryz.infI64 l.length (by omega) (by unfold maxLen; omega)
  have hrow := RowV.made (Value.int .i64) (0:Int) 2 W W.heap.size l.length (Nat.le_refl _) (by unfold maxLen; omega)
  have hb0 : Below W.heap.size W (W.alloc (.cells (madeCells #[(Value.int .i64) (0:Int)] l.length) 2)) := (Below.refl _ _).alloc (Nat.le_refl _) _
  have hmk1 := hmk W
  generalize hW : (W.alloc (.cells (madeCells #[(Value.int .i64) (0:Int)] l.length) 2)) = W1 at hrow hb0
  have hmk2 : (Instr.makeSlice 70 (.int .i64 (l.length : Int)) (.int .i64 (l.length : Int))).run Tryz.prog W = .ok (.slice (some ⟨W.heap.size, 0, none⟩) l.length l.length) W1 := by rw [← hW]; exact hmk1
  clear hmk hmk1 hW
  go_enter Tryz.func72, Tryz.ntmps72
  go_wp2
  clear hmk2
  go_loopw [11] (fun i wr => ∃ (j : Nat) (ls : List Int), i = .int .i64 j ∧ j ≤ l.length ∧ RowV (Value.int .i64) 2 wr W.heap.size W.heap.size l.length ls ∧ ls.length = l.length ∧ ls = (l.take j).map Vl.n ++ List.replicate (l.length - j) (0:Int) ∧ Below W.heap.size W wr) (fun i _ => l.length - (intOf i).toNat)
  case atStart => exact ⟨0, _, rfl, Nat.zero_le _, hrow, List.length_replicate, by simp, hb0⟩
  case round =>
    clear hrow hb0
    obtain ⟨j, ls, rfl, hj, hrw, hlen, hls, hbel⟩ := hrel
    have HL := Lib.hid hlen; have HLS := Lib.hid hls; clear hlen hls
    by_cases hlt : j < l.length
    · have hlj : l[j]? = some l[j] := List.getElem?_eq_getElem hlt
      obtain ⟨ad, rfl, _, q0, q1, q2⟩ := (HR.out.below hbel).at hlj
      have HJ := Lib.hid hlj; clear hlj
      generalize l[j] = X at q0 q1 q2 HJ
      obtain ⟨xb, xn, xs⟩ := X
      simp only at q0 q1 q2
      have hrv := hrw.alloc (.cells #[.bool xb, .int .i64 xn, .string xs] 42)
      have hbv := hbel.alloc hbel.size (.cells #[.bool xb, .int .i64 xn, .string xs] 42)
      have hold := fill_at HLS.out (take_map_len Vl.n hj) hlt
      have hcell := hrv.cell j _ hold
      have hfro := hrv.frozen j
      have hst := (hrw.store j xn).alloc (.cells #[.bool xb, .int .i64 xn, .string xs] 42)
      have hgw := hrw.lt.2
      have HSN := Lib.hid (fill_snoc (x := xn) HLS.out (take_map_len Vl.n hj) hlt)
      have HTK := Lib.hid (take_map_snoc (f := Vl.n) HJ.out)
      have HRS := Lib.hid hst
      have HBV := Lib.hid ((hbel.setCell (p := ⟨W.heap.size, j, none⟩) (Nat.le_refl _) (.int .i64 xn)).alloc (by rw [World.size_setCell]; exact hbel.size) (.cells #[.bool xb, .int .i64 xn, .string xs] 42))
      clear hst hrv hrw hold hbv
      go_wp2_with fail
      go_roundw
      case rel => exact ⟨j + 1, _, by go_num, hlt, HRS.out, by rw [List.length_set]; exact HL.out, by rw [HSN.out, HTK.out], HBV.out⟩
      case measure => simp [intOf] <;> omega
    · have HF := Lib.hid (show ls = l.map Vl.n by rw [HLS.out, take_map_all Vl.n (by omega), show l.length - j = 0 by omega, List.replicate_zero, List.append_nil])
      go_wp2
      go_ret
      exact RetV.mk rfl (hrw.own_at HL.out HF.out) hbel
set_option maxRecDepth 100000 in
set_option maxHeartbeats 2000000 in
theorem txtsOf_any (v : Value) (l : List Vl) (W : World) (hr : RdL W W.heap.size v l) (hl : l.length ≤ 1000000) :
    Calls Tryz.prog 74 #[v] W (RetV Value.string 9 (l.map Vl.s) W) := by
  obtain ⟨A, c, _, rfl, rfl, hc1, hc2⟩ := hr.bds
  have HR := Lib.hid hr; clear hr
  have hmk := run_makeV (P := Tryz.prog) (z := (.string ⟨#[]⟩)) rfl Tryz.underlying73 Tryz.infStr l.length (by omega) (by unfold maxLen; omega)
  have hrow := RowV.made Value.string (⟨#[]⟩:ByteArray) 9 W W.heap.size l.length (Nat.le_refl _) (by unfold maxLen; omega)
  have hb0 : Below W.heap.size W (W.alloc (.cells (madeCells #[Value.string (⟨#[]⟩:ByteArray)] l.length) 9)) := (Below.refl _ _).alloc (Nat.le_refl _) _
  have hmk1 := hmk W
  generalize hW : (W.alloc (.cells (madeCells #[Value.string (⟨#[]⟩:ByteArray)] l.length) 9)) = W1 at hrow hb0
  have hmk2 : (Instr.makeSlice 73 (.int .i64 (l.length : Int)) (.int .i64 (l.length : Int))).run Tryz.prog W = .ok (.slice (some ⟨W.heap.size, 0, none⟩) l.length l.length) W1 := by rw [← hW]; exact hmk1
  clear hmk hmk1 hW
  go_enter Tryz.func74, Tryz.ntmps74
  go_wp2
  clear hmk2
  go_loopw [11] (fun i wr => ∃ (j : Nat) (ls : List ByteArray), i = .int .i64 j ∧ j ≤ l.length ∧ RowV Value.string 9 wr W.heap.size W.heap.size l.length ls ∧ ls.length = l.length ∧ ls = (l.take j).map Vl.s ++ List.replicate (l.length - j) (⟨#[]⟩:ByteArray) ∧ Below W.heap.size W wr) (fun i _ => l.length - (intOf i).toNat)
  case atStart => exact ⟨0, _, rfl, Nat.zero_le _, hrow, List.length_replicate, by simp, hb0⟩
  case round =>
    clear hrow hb0
    obtain ⟨j, ls, rfl, hj, hrw, hlen, hls, hbel⟩ := hrel
    have HL := Lib.hid hlen; have HLS := Lib.hid hls; clear hlen hls
    by_cases hlt : j < l.length
    · have hlj : l[j]? = some l[j] := List.getElem?_eq_getElem hlt
      obtain ⟨ad, rfl, _, q0, q1, q2⟩ := (HR.out.below hbel).at hlj
      have HJ := Lib.hid hlj; clear hlj
      generalize l[j] = X at q0 q1 q2 HJ
      obtain ⟨xb, xn, xs⟩ := X
      simp only at q0 q1 q2
      have hrv := hrw.alloc (.cells #[.bool xb, .int .i64 xn, .string xs] 42)
      have hbv := hbel.alloc hbel.size (.cells #[.bool xb, .int .i64 xn, .string xs] 42)
      have hold := fill_at HLS.out (take_map_len Vl.s hj) hlt
      have hcell := hrv.cell j _ hold
      have hfro := hrv.frozen j
      have hst := (hrw.store j xs).alloc (.cells #[.bool xb, .int .i64 xn, .string xs] 42)
      have hgw := hrw.lt.2
      have HSN := Lib.hid (fill_snoc (x := xs) HLS.out (take_map_len Vl.s hj) hlt)
      have HTK := Lib.hid (take_map_snoc (f := Vl.s) HJ.out)
      have HRS := Lib.hid hst
      have HBV := Lib.hid ((hbel.setCell (p := ⟨W.heap.size, j, none⟩) (Nat.le_refl _) (.string xs)).alloc (by rw [World.size_setCell]; exact hbel.size) (.cells #[.bool xb, .int .i64 xn, .string xs] 42))
      clear hst hrv hrw hold hbv
      go_wp2_with fail
      go_roundw
      case rel => exact ⟨j + 1, _, by go_num, hlt, HRS.out, by rw [List.length_set]; exact HL.out, by rw [HSN.out, HTK.out], HBV.out⟩
      case measure => simp [intOf] <;> omega
    · have HF := Lib.hid (show ls = l.map Vl.s by rw [HLS.out, take_map_all Vl.s (by omega), show l.length - j = 0 by omega, List.replicate_zero, List.append_nil])
      go_wp2
      go_ret
      exact RetV.mk rfl (hrw.own_at HL.out HF.out) hbel
set_option maxRecDepth 100000 in
set_option maxHeartbeats 2000000 in
theorem rnums_any (v : Value) (l : List Vl) (W : World) (hr : RdL W W.heap.size v l) (hl : l.length ≤ 1000000) :
    Calls Tryz.prog 36 #[v] W (RetV (Value.int .i64) 2 (l.map Vl.n) W) := by
  obtain ⟨A, c, _, rfl, rfl, hc1, hc2⟩ := hr.bds
  have HR := Lib.hid hr; clear hr
  go_enter Tryz.func36, Tryz.ntmps36
  go_wp2
  go_loopw [3, 8] (fun o i wr => ∃ (j : Nat), i = .int .i64 j ∧ j ≤ l.length ∧ OwnV (Value.int .i64) 2 wr W.heap.size o ((l.take j).map Vl.n) ∧ Below W.heap.size W wr) (fun _ i _ => l.length - (intOf i).toNat)
  case atStart => exact ⟨0, rfl, Nat.zero_le _, OwnV.nil _ _ _ _, Below.refl _ _⟩
  case round =>
    obtain ⟨j, rfl, hj, hown, hbel⟩ := hrel
    have hln := take_map_len Vl.n hj
    by_cases hlt : j < l.length
    · have hlj : l[j]? = some l[j] := List.getElem?_eq_getElem hlt
      obtain ⟨ad, rfl, _, q0, q1, q2⟩ := (HR.out.below hbel).at hlj
      have HJ := Lib.hid hlj; clear hlj
      generalize l[j] = X at q0 q1 q2 HJ
      obtain ⟨xb, xn, xs⟩ := X
      simp only at q0 q1 q2
      have HTK := Lib.hid (take_map_snoc (f := Vl.n) HJ.out)
      generalize (l.take j).map Vl.n = m at *
      have hszb := hbel.size
      have HO := Lib.hid ((hown.alloc (.cells #[.bool xb, .int .i64 xn, .string xs] 42)).alloc (.cells #[(Value.int .i64) xn] 2))
      have HBA := Lib.hid (((Below.refl W.heap.size wr).alloc hszb (.cells #[.bool xb, .int .i64 xn, .string xs] 42)).alloc (by simp; omega) (.cells #[(Value.int .i64) xn] 2))
      have HL1 := Lib.hid (show m.length + [xn].length ≤ maxLen by unfold maxLen; simp only [List.length_cons, List.length_nil]; omega)
      have HL2 := Lib.hid (show (m.length + [xn].length) * 8 ≤ 140737488355328 by simp only [List.length_cons, List.length_nil]; omega)
      have HL3 := Lib.hid (show W.heap.size ≤ ((wr.alloc (.cells #[.bool xb, .int .i64 xn, .string xs] 42)).alloc (.cells #[(Value.int .i64) xn] 2)).heap.size by simp; omega)
      have HX := Lib.hid (show RdV (Value.int .i64) ((wr.alloc (.cells #[.bool xb, .int .i64 xn, .string xs] 42)).alloc (.cells #[(Value.int .i64) xn] 2)) (wr.heap.size + 1 + 1) (.slice (some ⟨wr.heap.size + 1, 0, none⟩) 1 1) [xn] by
        have h := RdV.one (Value.int .i64) (wr.alloc (.cells #[.bool xb, .int .i64 xn, .string xs] 42)) xn 1 2 (by decide) (by decide)
        rw [show (wr.alloc (.cells #[.bool xb, .int .i64 xn, .string xs] 42)).heap.size = wr.heap.size + 1 from by simp] at h
        exact h)
      clear hown
      go_wp2_with (at_builtin; refine wpl_appV (f := (Value.int .i64)) (fun _ => rfl) (.int .i64 0) rfl rfl _ _ 70 rfl W.heap.size 2 8 Tryz.underlying70 Tryz.infI64 _ m rfl HO.out _ _ [xn] rfl HX.out HL1.out HL2.out HL3.out ?_)
      intro v' w' hown' hb' _
      have hba := HBA.out.trans hb'
      go_wp2_with fail
      go_roundw
      case rel => exact ⟨j + 1, by go_num, hlt, by rw [HTK.out]; exact hown', hbel.trans hba⟩
      case measure => simp [intOf] <;> omega
    · have HF := Lib.hid (take_map_all Vl.n (l := l) (j := j) (by omega))
      generalize (l.take j).map Vl.n = m at *
      go_wp2
      go_ret
      exact RetV.mk rfl (by rw [← HF.out]; exact hown) hbel
set_option maxRecDepth 100000 in
set_option maxHeartbeats 2000000 in
theorem rtxts_any (v : Value) (l : List Vl) (W : World) (hr : RdL W W.heap.size v l) (hl : l.length ≤ 1000000) :
    Calls Tryz.prog 38 #[v] W (RetV Value.string 9 (l.map Vl.s) W) := by
  obtain ⟨A, c, _, rfl, rfl, hc1, hc2⟩ := hr.bds
  have HR := Lib.hid hr; clear hr
  go_enter Tryz.func38, Tryz.ntmps38
  go_wp2
  go_loopw [3, 8] (fun o i wr => ∃ (j : Nat), i = .int .i64 j ∧ j ≤ l.length ∧ OwnV Value.string 9 wr W.heap.size o ((l.take j).map Vl.s) ∧ Below W.heap.size W wr) (fun _ i _ => l.length - (intOf i).toNat)
  case atStart => exact ⟨0, rfl, Nat.zero_le _, OwnV.nil _ _ _ _, Below.refl _ _⟩
  case round =>
    obtain ⟨j, rfl, hj, hown, hbel⟩ := hrel
    have hln := take_map_len Vl.s hj
    by_cases hlt : j < l.length
    · have hlj : l[j]? = some l[j] := List.getElem?_eq_getElem hlt
      obtain ⟨ad, rfl, _, q0, q1, q2⟩ := (HR.out.below hbel).at hlj
      have HJ := Lib.hid hlj; clear hlj
      generalize l[j] = X at q0 q1 q2 HJ
      obtain ⟨xb, xn, xs⟩ := X
      simp only at q0 q1 q2
      have HTK := Lib.hid (take_map_snoc (f := Vl.s) HJ.out)
      generalize (l.take j).map Vl.s = m at *
      have hszb := hbel.size
      have HO := Lib.hid ((hown.alloc (.cells #[.bool xb, .int .i64 xn, .string xs] 42)).alloc (.cells #[Value.string xs] 9))
      have HBA := Lib.hid (((Below.refl W.heap.size wr).alloc hszb (.cells #[.bool xb, .int .i64 xn, .string xs] 42)).alloc (by simp; omega) (.cells #[Value.string xs] 9))
      have HL1 := Lib.hid (show m.length + [xs].length ≤ maxLen by unfold maxLen; simp only [List.length_cons, List.length_nil]; omega)
      have HL2 := Lib.hid (show (m.length + [xs].length) * 16 ≤ 140737488355328 by simp only [List.length_cons, List.length_nil]; omega)
      have HL3 := Lib.hid (show W.heap.size ≤ ((wr.alloc (.cells #[.bool xb, .int .i64 xn, .string xs] 42)).alloc (.cells #[Value.string xs] 9)).heap.size by simp; omega)
      have HX := Lib.hid (show RdV Value.string ((wr.alloc (.cells #[.bool xb, .int .i64 xn, .string xs] 42)).alloc (.cells #[Value.string xs] 9)) (wr.heap.size + 1 + 1) (.slice (some ⟨wr.heap.size + 1, 0, none⟩) 1 1) [xs] by
        have h := RdV.one Value.string (wr.alloc (.cells #[.bool xb, .int .i64 xn, .string xs] 42)) xs 1 9 (by decide) (by decide)
        rw [show (wr.alloc (.cells #[.bool xb, .int .i64 xn, .string xs] 42)).heap.size = wr.heap.size + 1 from by simp] at h
        exact h)
      clear hown
      go_wp2_with (at_builtin; refine wpl_appV (f := Value.string) (fun _ => rfl) (.string ⟨#[]⟩) rfl rfl _ _ 73 rfl W.heap.size 9 16 Tryz.underlying73 Tryz.infStr _ m rfl HO.out _ _ [xs] rfl HX.out HL1.out HL2.out HL3.out ?_)
      intro v' w' hown' hb' _
      have hba := HBA.out.trans hb'
      go_wp2_with fail
      go_roundw
      case rel => exact ⟨j + 1, by go_num, hlt, by rw [HTK.out]; exact hown', hbel.trans hba⟩
      case measure => simp [intOf] <;> omega
    · have HF := Lib.hid (take_map_all Vl.s (l := l) (j := j) (by omega))
      generalize (l.take j).map Vl.s = m at *
      go_wp2
      go_ret
      exact RetV.mk rfl (by rw [← HF.out]; exact hown) hbel
set_option maxRecDepth 100000 in
set_option maxHeartbeats 2000000 in
theorem ofNums_any (v : Value) (l : List Int) (W : World) (hr : RdV (Value.int .i64) W W.heap.size v l) (hl : l.length ≤ 1000000) :
    Calls Tryz.prog 85 #[v] W (RetVl 42 (l.map ofN) W) := by
  obtain ⟨A, c, _, rfl, rfl, hc1, hc2⟩ := hr.bds
  have HR := Lib.hid hr; clear hr
  have hmk := run_make3 (P := Tryz.prog) Tryz.underlying28 Tryz.infVal l.length (by omega) (by unfold maxLen; omega)
  have hrow := RowL.made 42 W W.heap.size l.length (Nat.le_refl _) (by unfold maxLen; omega)
  have hb0 : Below W.heap.size W (W.alloc (.cells (madeCells #[.bool false, .int .i64 0, .string ⟨#[]⟩] (l.length * 3)) 42)) := (Below.refl _ _).alloc (Nat.le_refl _) _
  have hmk1 := hmk W
  generalize hW : (W.alloc (.cells (madeCells #[.bool false, .int .i64 0, .string ⟨#[]⟩] (l.length * 3)) 42)) = W1 at hrow hb0 hmk1
  clear hmk hW
  go_enter Tryz.func85, Tryz.ntmps85
  go_wp2
  clear hmk1
  go_loopw [11] (fun i wr => ∃ (j : Nat) (ls : List Vl), i = .int .i64 j ∧ j ≤ l.length ∧ RowL 42 wr W.heap.size W.heap.size l.length ls ∧ ls.length = l.length ∧ ls = (l.take j).map ofN ++ List.replicate (l.length - j) vl0 ∧ Below W.heap.size W wr) (fun i _ => l.length - (intOf i).toNat)
  case atStart => exact ⟨0, _, rfl, Nat.zero_le _, hrow, List.length_replicate, by simp, hb0⟩
  case round =>
    clear hrow hb0
    obtain ⟨j, ls, rfl, hj, hrw, hlen, hls, hbel⟩ := hrel
    have HL := Lib.hid hlen; have HLS := Lib.hid hls; clear hlen hls
    by_cases hlt : j < l.length
    · have hlj : l[j]? = some l[j] := List.getElem?_eq_getElem hlt
      obtain ⟨ad, rfl, _, q0⟩ := (HR.out.below hbel).at hlj
      have HJ := Lib.hid hlj; clear hlj
      generalize l[j] = x at q0 HJ
      replace q0 : wr.cell? (ad.add j) = some (.int .i64 x) := q0
      have hold := fill_at HLS.out (take_map_len ofN hj) hlt
      obtain ⟨k0, k1, k2⟩ := hrw.at hold
      have hfro := hrw.frozen (j * 3 + 1)
      have HRS := Lib.hid (hrw.store j 1 (.int .i64 x) (x := vl0) (x' := ofN x) hold (by decide) rfl)
      have HSN := Lib.hid (fill_snoc (x := ofN x) HLS.out (take_map_len ofN hj) hlt)
      have HTK := Lib.hid (take_map_snoc (f := ofN) HJ.out)
      have hgw := hrw.lt.2
      clear hrw hold
      go_wp2_with fail
      go_roundw
      case rel => exact ⟨j + 1, _, by go_num, hlt, HRS.out, by rw [List.length_set]; exact HL.out, by rw [HSN.out, HTK.out], hbel.setCell (Nat.le_refl _) _⟩
      case measure => simp [intOf] <;> omega
    · have HF := Lib.hid (show ls = l.map ofN by rw [HLS.out, take_map_all ofN (by omega), show l.length - j = 0 by omega, List.replicate_zero, List.append_nil])
      go_wp2
      go_ret
      exact RetVl.mk rfl (hrw.own_at HL.out HF.out) hbel
set_option maxRecDepth 100000 in
set_option maxHeartbeats 2000000 in
theorem ofTxts_any (v : Value) (l : List ByteArray) (W : World) (hr : RdV Value.string W W.heap.size v l) (hl : l.length ≤ 1000000) :
    Calls Tryz.prog 87 #[v] W (RetVl 42 (l.map ofS) W) := by
  obtain ⟨A, c, _, rfl, rfl, hc1, hc2⟩ := hr.bds
  have HR := Lib.hid hr; clear hr
  have hmk := run_make3 (P := Tryz.prog) Tryz.underlying28 Tryz.infVal l.length (by omega) (by unfold maxLen; omega)
  have hrow := RowL.made 42 W W.heap.size l.length (Nat.le_refl _) (by unfold maxLen; omega)
  have hb0 : Below W.heap.size W (W.alloc (.cells (madeCells #[.bool false, .int .i64 0, .string ⟨#[]⟩] (l.length * 3)) 42)) := (Below.refl _ _).alloc (Nat.le_refl _) _
  have hmk1 := hmk W
  generalize hW : (W.alloc (.cells (madeCells #[.bool false, .int .i64 0, .string ⟨#[]⟩] (l.length * 3)) 42)) = W1 at hrow hb0 hmk1
  clear hmk hW
  go_enter Tryz.func87, Tryz.ntmps87
  go_wp2
  clear hmk1
  go_loopw [11] (fun i wr => ∃ (j : Nat) (ls : List Vl), i = .int .i64 j ∧ j ≤ l.length ∧ RowL 42 wr W.heap.size W.heap.size l.length ls ∧ ls.length = l.length ∧ ls = (l.take j).map ofS ++ List.replicate (l.length - j) vl0 ∧ Below W.heap.size W wr) (fun i _ => l.length - (intOf i).toNat)
  case atStart => exact ⟨0, _, rfl, Nat.zero_le _, hrow, List.length_replicate, by simp, hb0⟩
  case round =>
    clear hrow hb0
    obtain ⟨j, ls, rfl, hj, hrw, hlen, hls, hbel⟩ := hrel
    have HL := Lib.hid hlen; have HLS := Lib.hid hls; clear hlen hls
    by_cases hlt : j < l.length
    · have hlj : l[j]? = some l[j] := List.getElem?_eq_getElem hlt
      obtain ⟨ad, rfl, _, q0⟩ := (HR.out.below hbel).at hlj
      have HJ := Lib.hid hlj; clear hlj
      generalize l[j] = x at q0 HJ
      replace q0 : wr.cell? (ad.add j) = some (.string x) := q0
      have hold := fill_at HLS.out (take_map_len ofS hj) hlt
      obtain ⟨k0, k1, k2⟩ := hrw.at hold
      have hfro := hrw.frozen (j * 3 + 2)
      have HRS := Lib.hid (hrw.store j 2 (.string x) (x := vl0) (x' := ofS x) hold (by decide) rfl)
      have HSN := Lib.hid (fill_snoc (x := ofS x) HLS.out (take_map_len ofS hj) hlt)
      have HTK := Lib.hid (take_map_snoc (f := ofS) HJ.out)
      have hgw := hrw.lt.2
      clear hrw hold
      go_wp2_with fail
      go_roundw
      case rel => exact ⟨j + 1, _, by go_num, hlt, HRS.out, by rw [List.length_set]; exact HL.out, by rw [HSN.out, HTK.out], hbel.setCell (Nat.le_refl _) _⟩
      case measure => simp [intOf] <;> omega
    · have HF := Lib.hid (show ls = l.map ofS by rw [HLS.out, take_map_all ofS (by omega), show l.length - j = 0 by omega, List.replicate_zero, List.append_nil])
      go_wp2
      go_ret
      exact RetVl.mk rfl (hrw.own_at HL.out HF.out) hbel
end Go.Proofs.YtbolbbngncnecaaGreat
