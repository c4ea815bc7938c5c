/- The walks over strings.Cut, CutSuffix, Contains at the separators that package schema uses. -/
import Derived.Test.YtnmlajmaffiigaaGreatDoorGf
import Derived.RegionTactic
import Derived.Test.YtnmlajmaffiigaaGreatDoorGs
import Derived.BigQuiet
namespace Go.SC
open Go.RowKit Go.VB Go.VL
end Go.SC
namespace Go.Proofs.YtnmlajmaffiigaaGreatDoor
open Go.RowKit Go.VB Go.VL Go.SC
set_option linter.constructorNameAsVariable false
end Go.Proofs.YtnmlajmaffiigaaGreatDoor

namespace Go.SC
open Go.RowKit Go.VB Go.VL
instance (n : List UInt8) : Decidable (isW n) := by unfold isW; infer_instance
/-- A name and whether there is one; what was there is as it was. -/
def PKey (l : List UInt8) (w : World) : Ending → World → Prop := fun e w' => Below w.heap.size w w' ∧
  ((∃ n, isKey l n ∧ e = .returned (.tuple #[.string (str n), .bool true])) ∨ ((¬ ∃ n, isKey l n) ∧ e = .returned (.tuple #[.string ⟨#[]⟩, .bool false])))
theorem PKey.no {l : List UInt8} {w w' : World} {v : Value} (h : ¬ ∃ n, isKey l n) (hv : v = .tuple #[.string ⟨#[]⟩, .bool false]) (hb : Below w.heap.size w w') : PKey l w (.returned v) w' := ⟨hb, .inr ⟨h, by rw [hv]⟩⟩
/-- A type, a scale and whether there is one; what was there is as it was. -/
def PTyp (l : List UInt8) (w : World) : Ending → World → Prop := fun e w' => Below w.heap.size w w' ∧
  ((∃ ty sc, okTS ty sc ∧ l = typL ty sc ∧ e = .returned (.tuple #[.int .i64 ty, .int .i64 sc, .bool true])) ∨ ((∀ ty sc, okTS ty sc → l ≠ typL ty sc) ∧ e = .returned (.tuple #[.int .i64 0, .int .i64 0, .bool false])))
theorem PTyp.no {l : List UInt8} {w w' : World} {v : Value} (h : ∀ ty sc, okTS ty sc → l ≠ typL ty sc) (hv : v = .tuple #[.int .i64 0, .int .i64 0, .bool false]) (hb : Below w.heap.size w w') : PTyp l w (.returned v) w' := ⟨hb, .inr ⟨h, by rw [hv]⟩⟩
end Go.SC
namespace Go.Proofs.YtnmlajmaffiigaaGreatDoor
open Go.RowKit Go.VB Go.VL Go.SC
set_option linter.constructorNameAsVariable false
end Go.Proofs.YtnmlajmaffiigaaGreatDoor

namespace Go.SC
open Go.RowKit Go.VB Go.VL
/-- A column and whether the line is one; what was there is as it was. -/
def PCol (l : List UInt8) (w : World) : Ending → World → Prop := fun e w' => Below w.heap.size w w' ∧
  ((∃ c, isCol l c ∧ e = .returned (.tuple #[c.val, .bool true])) ∨ ((¬ ∃ c, isCol l c) ∧ e = .returned (.tuple #[col0.val, .bool false])))
theorem PCol.no {l : List UInt8} {w w' : World} {v : Value} (h : ¬ ∃ c, isCol l c) (hv : v = .tuple #[col0.val, .bool false]) (hb : Below w.heap.size w w') : PCol l w (.returned v) w' := ⟨hb, .inr ⟨h, by rw [hv]⟩⟩
end Go.SC
namespace Go.Proofs.YtnmlajmaffiigaaGreatDoor
open Go.RowKit Go.VB Go.VL Go.SC
set_option linter.constructorNameAsVariable false
end Go.Proofs.YtnmlajmaffiigaaGreatDoor

namespace Go.SC
open Go.RowKit Go.VB Go.VL
theorem dig36_cut : ∀ n : Fin 10, (⟨#[48, 49, 50, 51, 52, 53, 54, 55, 56, 57, 97, 98, 99, 100, 101, 102, 103, 104, 105, 106, 107, 108, 109, 110, 111, 112, 113, 114, 115, 116, 117, 118, 119, 120, 121, 122]⟩ : ByteArray).extract n.val (n.val + 1) = str [UInt8.ofNat (48 + n.val)] := by decide +kernel
/-- The two digits of every number below 100, one after another. -/
def smalls : List UInt8 := (List.range 100).flatMap fun n => [UInt8.ofNat (48 + n / 10), UInt8.ofNat (48 + n % 10)]
theorem smalls_cut : ∀ n : Fin 100, (str smalls).extract (n.val * 2) (n.val * 2 + 2) = str [UInt8.ofNat (48 + n.val / 10), UInt8.ofNat (48 + n.val % 10)] := by decide +kernel
theorem drewN_cell7 (w : World) (k : Nat) (a : Addr) : (w.drewN k).cell? a = w.cell? a := by
  induction k generalizing w with
  | zero => rfl
  | succ k ih => exact ih w
end Go.SC
namespace Go.Proofs.YtnmlajmaffiigaaGreatDoor
open Go.RowKit Go.VB Go.VL Go.SC
set_option linter.constructorNameAsVariable false
set_option maxRecDepth 100000 in
set_option maxHeartbeats 2000000 in
theorem small_any (n : Nat) (w : World) (hn : n < 100) : Calls Tryz.prog 248 #[.int .i64 (n : Int)] w (Ret (.string (str (scL n))) w) := by
  by_cases h : n < 10
  · have HC := Lib.hid (show (⟨#[48, 49, 50, 51, 52, 53, 54, 55, 56, 57, 97, 98, 99, 100, 101, 102, 103, 104, 105, 106, 107, 108, 109, 110, 111, 112, 113, 114, 115, 116, 117, 118, 119, 120, 121, 122]⟩ : ByteArray).extract n (n + 1) = str (scL n) from by rw [scL_small h]; exact dig36_cut ⟨n, h⟩)
    generalize str (scL n) = R at *
    go_enter Tryz.func248, Tryz.ntmps248
    go_wp2
    go_ret
    exact Ret.mk (by rw [← HC.out]; rfl)
  · have HC := Lib.hid (show (str smalls).extract (n * 2) (n * 2 + 2) = str (scL n) from by rw [scL_big h]; exact smalls_cut ⟨n, hn⟩)
    generalize str (scL n) = R at *
    go_enter Tryz.func248, Tryz.ntmps248
    go_wp2
    go_ret
    exact Ret.mk (by rw [← HC.out]; rfl)
set_option maxRecDepth 100000 in
set_option maxHeartbeats 1000000 in
theorem fmti_any (n : Nat) (w : World) (hn : n < 100) : Calls Tryz.prog 226 #[.int .i64 (n : Int),.int .i64 10] w (Ret (.string (str (scL n))) w) := by
  have hH := Lib.hid (small_any n w hn)
  generalize str (scL n) = S at *
  go_enter Tryz.func226, Tryz.ntmps226
  go_wp2_with fail
  refine hH.out.mono ?_
  rintro e w' ⟨rfl, rfl⟩
  go_wp2_with fail
  go_ret
  exact Ret.mk rfl
set_option maxRecDepth 100000 in
set_option maxHeartbeats 1000000 in
theorem itoa1_any (n : Nat) (w : World) (hn : n < 100) : Calls Tryz.prog 193 #[.int .i64 (n : Int)] w (Ret (.string (str (scL n))) w) := by
  have hH := Lib.hid (fmti_any n w hn)
  generalize str (scL n) = S at *
  go_enter Tryz.func193, Tryz.ntmps193
  go_wp2_with fail
  refine hH.out.mono ?_
  rintro e w' ⟨rfl, rfl⟩
  go_wp2_with fail
  go_ret
  exact Ret.mk rfl
set_option maxRecDepth 100000 in
set_option maxHeartbeats 1000000 in
theorem itoa_any (n : Nat) (w : World) (hn : n < 100) : Calls Tryz.prog 153 #[.int .i64 (n : Int)] w (Ret (.string (str (scL n))) w) := by
  have hH := Lib.hid (itoa1_any n w hn)
  generalize str (scL n) = S at *
  go_enter Tryz.func153, Tryz.ntmps153
  go_wp2_with fail
  refine hH.out.mono ?_
  rintro e w' ⟨rfl, rfl⟩
  go_wp2_with fail
  go_ret
  exact Ret.mk rfl
set_option maxRecDepth 100000 in
set_option maxHeartbeats 4000000 in
theorem fcol_any (c : Col) (w : World) (hcv : CV c) : Calls Tryz.prog 111 #[c.val] w (RetB (.string (str (colL c))) w) := by
  obtain ⟨nm, ty, sc, nu⟩ := c
  obtain ⟨hnm1, hnm2⟩ := hcv.nm_size
  have htw := twL_len hcv.ty
  obtain ⟨_, _, hsc0, hsc18, _⟩ := hcv
  simp only at hnm1 hnm2 htw hsc0 hsc18
  obtain ⟨nmL, hnmL0⟩ : ∃ l : List UInt8, l = nm.data.toList := ⟨_, rfl⟩
  have hnl : nmL.length ≤ 16 := by rw [hnmL0, size_list]; exact hnm2
  have hnmS : str nmL = nm := by rw [hnmL0]; rfl
  obtain ⟨n, rfl⟩ : ∃ n : Nat, sc = (n : Int) := ⟨sc.toNat, by omega⟩
  have hn100 : n < 100 := by omega
  have hsl := (scL_len hn100).2
  have HW := fun w => Lib.hid (wordOf_any ty w)
  have HI := fun w => Lib.hid (itoa_any n w hn100)
  have htwS : str (twL ty) = tword ty := rfl
  have e1 := add_str (P := Tryz.prog) nmL [32] (by simp; omega)
  have e2 := add_str (P := Tryz.prog) (nmL ++ [32]) (twL ty) (by simp; omega)
  have e3 := add_str (P := Tryz.prog) [32] (scL n) (by simp; omega)
  have e4 := add_str (P := Tryz.prog) (nmL ++ [32] ++ twL ty) ([32] ++ scL n) (by simp; omega)
  rw [hnmS, show str [32] = ⟨#[32]⟩ from rfl] at e1
  rw [htwS] at e2
  rw [show str [32] = ⟨#[32]⟩ from rfl] at e3
  by_cases h5 : ty = 5
  · have hd : (ty == 5) = true := ieq_t h5
    have e5 := add_str (P := Tryz.prog) (nmL ++ [32] ++ twL ty ++ ([32] ++ scL n)) [32, 110, 117, 108, 108] (by simp; omega)
    rw [show str [32, 110, 117, 108, 108] = ⟨#[32, 110, 117, 108, 108]⟩ from rfl] at e5
    have HE : Hid (colL ⟨nm, ty, (n : Int), nu⟩ = if nu then nmL ++ [32] ++ twL ty ++ ([32] ++ scL n) ++ [32, 110, 117, 108, 108] else nmL ++ [32] ++ twL ty ++ ([32] ++ scL n)) := Lib.hid (by
      unfold colL typL nulL
      simp only [if_pos h5, Int.toNat_natCast]
      rw [← hnmL0]
      cases nu <;> simp [nullL])
    clear hnmL0 hnmS h5 htwS hnm1 hnm2 hnl hsl htw hsc0 hsc18
    have hV := Var4.new w (.string nm) (.int .i64 ty) (.int .i64 (n : Int)) (.bool nu) 62
    have hB : Below w.heap.size w (w.alloc (.cells #[.string nm, .int .i64 ty, .int .i64 (n : Int), .bool nu] 62)) := (Below.refl _ _).alloc (Nat.le_refl _) _
    obtain ⟨k0, k1, k2, k3⟩ := hV
    unfold Col.val
    simp only
    generalize str (scL n) = SN at *
    generalize str ([32] ++ scL n) = SD at *
    generalize tword ty = TW at *
    cases nu with
    | true =>
      simp only [if_true] at HE
      rw [HE.out]
      generalize str (nmL ++ [32] ++ twL ty ++ ([32] ++ scL n) ++ [32, 110, 117, 108, 108]) = S5 at *
      generalize str (nmL ++ [32] ++ twL ty ++ ([32] ++ scL n)) = S4 at *
      generalize str (nmL ++ [32] ++ twL ty) = S2 at *
      generalize str (nmL ++ [32]) = S1 at *
      go_enter Tryz.func111, Tryz.ntmps111
      go_wp2_with fail
      generalize w.alloc (.cells #[.string nm, .int .i64 ty, .int .i64 (n : Int), .bool true] 62) = w1 at *
      go_quiet (first | (go_at_call 137; refine quiet7 (HW _).out))
      replace hB := Go.below_drewN hB nq
      have kk := fun a => drewN_cell7 w1 nq a
      rw [← kk] at k0 k1 k2 k3
      clear kk
      generalize w1.drewN nq = w2 at *
      go_wp2_with fail
      refine (HI _).out.mono ?_
      rintro e w' ⟨rfl, rfl⟩
      go_wp2_with fail
      go_ret
      exact RetB.mk rfl hB
    | false =>
      simp only [Bool.false_eq_true, if_false] at HE
      rw [HE.out]
      clear e5
      generalize str (nmL ++ [32] ++ twL ty ++ ([32] ++ scL n)) = S4 at *
      generalize str (nmL ++ [32] ++ twL ty) = S2 at *
      generalize str (nmL ++ [32]) = S1 at *
      go_enter Tryz.func111, Tryz.ntmps111
      go_wp2_with fail
      generalize w.alloc (.cells #[.string nm, .int .i64 ty, .int .i64 (n : Int), .bool false] 62) = w1 at *
      go_quiet (first | (go_at_call 137; refine quiet7 (HW _).out))
      replace hB := Go.below_drewN hB nq
      have kk := fun a => drewN_cell7 w1 nq a
      rw [← kk] at k0 k1 k2 k3
      clear kk
      generalize w1.drewN nq = w2 at *
      go_wp2_with fail
      refine (HI _).out.mono ?_
      rintro e w' ⟨rfl, rfl⟩
      go_wp2_with fail
      go_ret
      exact RetB.mk rfl hB
  · have hd : (ty == 5) = false := ieq_f h5
    have e5 := add_str (P := Tryz.prog) (nmL ++ [32] ++ twL ty) [32, 110, 117, 108, 108] (by simp; omega)
    rw [show str [32, 110, 117, 108, 108] = ⟨#[32, 110, 117, 108, 108]⟩ from rfl] at e5
    have HE : Hid (colL ⟨nm, ty, (n : Int), nu⟩ = if nu then nmL ++ [32] ++ twL ty ++ [32, 110, 117, 108, 108] else nmL ++ [32] ++ twL ty) := Lib.hid (by
      unfold colL typL nulL
      simp only [if_neg h5]
      rw [← hnmL0]
      cases nu <;> simp [nullL])
    clear hnmL0 hnmS h5 htwS hnm1 hnm2 hnl hsl htw hsc0 hsc18 e3 e4 HI
    have hV := Var4.new w (.string nm) (.int .i64 ty) (.int .i64 (n : Int)) (.bool nu) 62
    have hB : Below w.heap.size w (w.alloc (.cells #[.string nm, .int .i64 ty, .int .i64 (n : Int), .bool nu] 62)) := (Below.refl _ _).alloc (Nat.le_refl _) _
    obtain ⟨k0, k1, k2, k3⟩ := hV
    unfold Col.val
    simp only
    generalize tword ty = TW at *
    cases nu with
    | true =>
      simp only [if_true] at HE
      rw [HE.out]
      generalize str (nmL ++ [32] ++ twL ty ++ [32, 110, 117, 108, 108]) = S5 at *
      generalize str (nmL ++ [32] ++ twL ty) = S2 at *
      generalize str (nmL ++ [32]) = S1 at *
      go_enter Tryz.func111, Tryz.ntmps111
      go_wp2_with fail
      generalize w.alloc (.cells #[.string nm, .int .i64 ty, .int .i64 (n : Int), .bool true] 62) = w1 at *
      go_quiet (first | (go_at_call 137; refine quiet7 (HW _).out))
      replace hB := Go.below_drewN hB nq
      have kk := fun a => drewN_cell7 w1 nq a
      rw [← kk] at k0 k1 k2 k3
      clear kk
      generalize w1.drewN nq = w2 at *
      go_wp2_with fail
      go_ret
      exact RetB.mk rfl hB
    | false =>
      simp only [Bool.false_eq_true, if_false] at HE
      rw [HE.out]
      clear e5
      generalize str (nmL ++ [32] ++ twL ty) = S2 at *
      generalize str (nmL ++ [32]) = S1 at *
      go_enter Tryz.func111, Tryz.ntmps111
      go_wp2_with fail
      generalize w.alloc (.cells #[.string nm, .int .i64 ty, .int .i64 (n : Int), .bool false] 62) = w1 at *
      go_quiet (first | (go_at_call 137; refine quiet7 (HW _).out))
      replace hB := Go.below_drewN hB nq
      have kk := fun a => drewN_cell7 w1 nq a
      rw [← kk] at k0 k1 k2 k3
      clear kk
      generalize w1.drewN nq = w2 at *
      go_wp2_with fail
      go_ret
      exact RetB.mk rfl hB
set_option maxRecDepth 100000 in
set_option maxHeartbeats 8000000 in
theorem format_any (cs : List Col) (v : Value) (key : Int) (W : World) (hr : RdC W W.heap.size v cs) :
    Calls Tryz.prog 74 #[.agg #[v, .int .i64 key]] W (RetB (.tuple #[.string (FT cs key), .int .i64 (chkS cs key : Nat)]) W) := by
  have hV2 := Var2.new W v (.int .i64 key) 24
  have hB0 : Below W.heap.size W (W.alloc (.cells #[v, .int .i64 key] 24)) := (Below.refl _ _).alloc (Nat.le_refl _) _
  have hHC := Lib.hid (check_any cs v key _ (hr.below hB0 |>.more hB0.size))
  obtain ⟨A, c, rfl, hc, hm, hrr⟩ := hr
  have hX : ∀ j, j < cs.length → ∃ ad, A = some ad ∧ ad.block < W.heap.size ∧ At4 W ad j (cs.getD j col0) := hrr
  clear hrr
  unfold maxLen at hm
  have HX := Lib.hid hX; clear hX
  by_cases he : chkS cs key = 0
  rotate_left
  · have hF := FT_bad he
    rw [hF]
    have hd : ((chkS cs key : Int) != 0) = true := ine_t (by omega)
    clear hF he HX
    generalize chkS cs key = E at *
    obtain ⟨l0, l1, _, _⟩ := hV2
    go_enter Tryz.func74, Tryz.ntmps74
    go_wp2_with fail
    refine hHC.out.mono ?_
    rintro e w1 ⟨rfl, hb1⟩
    go_wp2_with fail
    go_ret2
    exact RetB.mk rfl (bel_trans hB0 hb1)
  have hF := FT_ok he
  have HCV := fun i (hi : i < cs.length) => Lib.hid (cv_of he hi)
  have HLEN := Lib.hid (txC_len he)
  obtain ⟨hne, h12, _, hk0, hk1⟩ := chkS_ok he
  have HF := Lib.hid hF
  have HE0 := Lib.hid he
  rw [he] at hHC
  clear hF he
  obtain ⟨l0, l1, _, _⟩ := id hV2
  go_enter Tryz.func74, Tryz.ntmps74
  go_wp2_with fail
  refine hHC.out.mono ?_
  rintro e w1 ⟨rfl, hb1⟩
  have hB1 := bel_trans hB0 hb1
  have hV1 := hV2.step hb1
  clear l0 l1 hB0 hV2 hHC hb1
  obtain ⟨l0, l1, _, _⟩ := id hV1
  go_wp2_with fail
  clear l0 l1
  go_loopw [5, 7, 16] (fun t _ j wr => ∃ k : Nat, t = .string (str (txC (cs.take k))) ∧ j = .int .i64 k ∧ k ≤ cs.length ∧ Below W.heap.size W wr ∧ Hid (Var2 wr W.heap.size (.slice A cs.length c) (.int .i64 key))) (fun _ _ j _ => cs.length - (intOf j).toNat)
  case atStart => exact ⟨0, rfl, rfl, Nat.zero_le _, hB1, Lib.hid hV1⟩
  case round =>
    clear hB1 hV1
    obtain ⟨k, rfl, rfl, hk, hB, HVw⟩ := hrel
    have hTl := HLEN.out k hk
    by_cases hlt : k < cs.length
    · obtain ⟨ad, rfl, hab, hat⟩ := HX.out k hlt
      obtain ⟨q0, q1, q2, q3⟩ := hat.below hB hab
      have hcv := (HCV k hlt).out
      have HTX := Lib.hid (txC_snoc hlt)
      clear HX HCV HLEN HF HE0 hat
      generalize cs.getD k col0 = C at *
      have hcl := colL_len hcv
      have HFC := fun w => Lib.hid (fcol_any C w hcv)
      have e1 := add_str (P := Tryz.prog) (colL C) [10] (by simp; omega)
      have e2 := add_str (P := Tryz.prog) (txC (cs.take k)) (colL C ++ [10]) (by simp; omega)
      rw [show str [10] = ⟨#[10]⟩ from rfl] at e1
      rw [← HTX.out] at e2
      have HB := fun o w2 (hb : Below (wr.alloc o).heap.size (wr.alloc o) w2) => Lib.hid (bel_trans (hB.alloc hB.size o) hb)
      have HVS := fun o w2 (hb : Below (wr.alloc o).heap.size (wr.alloc o) w2) => Lib.hid ((HVw.out.step ((Below.refl _ _).alloc (Nat.le_refl _) o)).step hb)
      clear hcv hcl hTl HTX hB HVw
      generalize str (colL C ++ [10]) = SL at *
      generalize str (colL C) = SC0 at *
      generalize hSN : str (txC (cs.take (k + 1))) = SN at *
      have HSN := Lib.hid hSN
      clear hSN
      generalize str (txC (cs.take k)) = ST at *
      obtain ⟨nm, ty, sc, nu⟩ := C
      unfold Col.val at HFC
      simp only at q0 q1 q2 q3 HFC
      go_wp2_with fail
      refine (HFC _).out.mono ?_
      rintro e w2 ⟨rfl, hb2⟩
      have hB2 := (HB _ _ hb2).out
      have hV2 := HVS _ _ hb2
      clear HB HVS hb2 HFC q0 q1 q2 q3
      go_wp2_with fail
      go_roundw
      case rel => exact ⟨k + 1, by rw [HSN.out], by go_num, hlt, hB2, hV2⟩
      case measure => simp [intOf] <;> omega
    · obtain rfl : k = cs.length := by omega
      obtain ⟨kn, rfl⟩ := Int.eq_ofNat_of_zero_le hk0
      have hkn : kn < cs.length := by omega
      obtain ⟨ad, rfl, hab, hat⟩ := HX.out kn hkn
      obtain ⟨q0, q1, q2, q3⟩ := hat.below hB hab
      have hnm := (HCV kn hkn).out.nm_size.2
      have HFT := HF
      obtain ⟨l0, l1, _, _⟩ := HVw.out
      have HFL : Hid (fmtL cs (kn : Int) = txC (cs.take cs.length) ++ [107, 101, 121] ++ [32] ++ (cs.getD kn col0).nm.data.toList ++ [10]) := Lib.hid (by
        unfold fmtL
        rw [List.take_length, Int.toNat_natCast]
        simp [keyL])
      clear HX HCV HLEN HVw hat HF hlt
      generalize cs.getD kn col0 = C at *
      obtain ⟨NM, ty, sc, nu⟩ := C
      simp only at hnm q0
      obtain ⟨nmL, hnmL0⟩ : ∃ l : List UInt8, l = NM.data.toList := ⟨_, rfl⟩
      have hnl : nmL.length ≤ 16 := by rw [hnmL0, size_list]; exact hnm
      have HNMl := Lib.hid (show str nmL = NM from by rw [hnmL0]; rfl)
      have HFL2 : Hid (fmtL cs (kn : Int) = txC (cs.take cs.length) ++ [107, 101, 121] ++ [32] ++ nmL ++ [10]) := Lib.hid (by rw [hnmL0]; exact HFL.out)
      clear hnmL0 HFL hnm
      have hT : (txC (cs.take cs.length)).length ≤ 480 := by omega
      generalize txC (cs.take cs.length) = T at *
      have e1 := add_str (P := Tryz.prog) T [107, 101, 121] (by simp; omega)
      have e2 := add_str (P := Tryz.prog) (T ++ [107, 101, 121]) [32] (by simp; omega)
      have e3 := add_str (P := Tryz.prog) (T ++ [107, 101, 121] ++ [32]) nmL (by simp; omega)
      have e4 := add_str (P := Tryz.prog) (T ++ [107, 101, 121] ++ [32] ++ nmL) [10] (by simp; omega)
      rw [show str [107, 101, 121] = ⟨#[107, 101, 121]⟩ from rfl] at e1
      rw [show str [32] = ⟨#[32]⟩ from rfl] at e2
      rw [show str [10] = ⟨#[10]⟩ from rfl] at e4
      rw [HNMl.out] at e3
      have HRES : Hid (FT cs (kn : Int) = str (T ++ [107, 101, 121] ++ [32] ++ nmL ++ [10])) := Lib.hid (by rw [HFT.out, HFL2.out])
      clear HFT HFL2 HNMl hT hTl q1 q2 q3
      generalize str (T ++ [107, 101, 121] ++ [32] ++ nmL ++ [10]) = S4 at *
      generalize str (T ++ [107, 101, 121] ++ [32] ++ nmL) = S3 at *
      generalize str (T ++ [107, 101, 121] ++ [32]) = S2 at *
      generalize str (T ++ [107, 101, 121]) = S1 at *
      generalize str T = S0 at *
      go_wp2_with fail
      go_ret2
      exact RetB.mk (by rw [HRES.out, HE0.out]; rfl) hB
end Go.Proofs.YtnmlajmaffiigaaGreatDoor
