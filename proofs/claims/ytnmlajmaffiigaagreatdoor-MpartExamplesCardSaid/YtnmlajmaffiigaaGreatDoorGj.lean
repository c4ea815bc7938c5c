/- Checksums: the plain numbers behind the walks; steps are linear and lose nothing. -/
import Derived.Test.YtnmlajmaffiigaaGreatDoorGa
namespace Go.CR
def pol : Nat := 2197175160
def stp (v : Nat) : Nat := if v % 2 = 1 then v / 2 ^^^ pol else v / 2
def steps : Nat → Nat → Nat | 0, v => v | n + 1, v => stp (steps n v)
def tab : List Nat := (List.range 256).map (steps 8)
/-- One byte with a table. -/
def shb (t : List Nat) (v b : Nat) : Nat := v / 256 ^^^ t.getD (v % 256 ^^^ b) 0
def feed (t : List Nat) (v : Nat) (bs : List UInt8) : Nat := bs.foldl (fun v b => shb t v b.toNat) v

theorem xor_lt {a b : Nat} (ha : a < 4294967296) (hb : b < 4294967296) : a ^^^ b < 4294967296 := Nat.xor_lt_two_pow (n := 32) ha hb
theorem xor_lt8 {a b : Nat} (ha : a < 256) (hb : b < 256) : a ^^^ b < 256 := Nat.xor_lt_two_pow (n := 8) ha hb
theorem step_lt {v : Nat} (h : v < 4294967296) : stp v < 4294967296 := by
  unfold stp pol; split
  · exact xor_lt (by omega) (by decide)
  · omega
theorem steps_lt {v : Nat} (h : v < 4294967296) : ∀ n, steps n v < 4294967296
  | 0 => h
  | n + 1 => step_lt (steps_lt h n)
theorem tab_len : tab.length = 256 := by unfold tab; simp
theorem tab_get {i : Nat} (h : i < 256) : tab.getD i 0 = steps 8 i := by
  unfold tab; rw [List.getD_eq_getElem?_getD, List.getElem?_map, List.getElem?_range h]; rfl
theorem tab_lt : ∀ x ∈ tab, x < 4294967296 := by
  intro x hx
  unfold tab at hx
  obtain ⟨i, hi, rfl⟩ := List.mem_map.1 hx
  rw [List.mem_range] at hi
  exact steps_lt (by omega) 8
theorem take_set {l : List Nat} {n j x : Nat} (hl : l.length = n) (hj : j < n) (hx : l.getD j 0 = x) : (l.take j ++ List.replicate (n - j) 0).set j x = l.take (j + 1) ++ List.replicate (n - (j + 1)) 0 := by
  rw [List.set_append, if_neg (by rw [List.length_take]; omega), List.length_take, Nat.min_eq_left (by omega), Nat.sub_self, show n - j = (n - (j + 1)) + 1 from by omega, List.replicate_succ, List.set_cons_zero,
    List.take_add_one, List.getElem?_eq_getElem (by omega), List.append_assoc]
  rw [List.getD_eq_getElem?_getD, List.getElem?_eq_getElem (by omega)] at hx
  simp only [Option.getD_some] at hx
  rw [hx]; rfl
theorem get_lt {t : List Nat} {i : Nat} (ht : ∀ x ∈ t, x < 4294967296) : t.getD i 0 < 4294967296 := by
  rw [List.getD_eq_getElem?_getD]
  rcases Nat.lt_or_ge i t.length with h | h
  · rw [List.getElem?_eq_getElem h]; exact ht _ (List.getElem_mem h)
  · rw [List.getElem?_eq_none h]; decide
theorem shb_lt {t : List Nat} {v : Nat} (b : Nat) (ht : ∀ x ∈ t, x < 4294967296) (hv : v < 4294967296) : shb t v b < 4294967296 := by
  unfold shb; exact xor_lt (by omega) (get_lt ht)
theorem feed_lt {t : List Nat} (ht : ∀ x ∈ t, x < 4294967296) : ∀ (bs : List UInt8) {v : Nat}, v < 4294967296 → feed t v bs < 4294967296
  | [], _, h => h
  | b :: r, _, h => feed_lt ht r (shb_lt b.toNat ht h)
theorem feed_append (t : List Nat) (v : Nat) (a b : List UInt8) : feed t v (a ++ b) = feed t (feed t v a) b := List.foldl_append
theorem feed_take (t : List Nat) (v : Nat) {l : List UInt8} {j : Nat} (h : j < l.length) : feed t v (l.take (j + 1)) = shb t (feed t v (l.take j)) (l.getD j 0).toNat := by
  rw [List.take_add_one, List.getElem?_eq_getElem h, feed_append, List.getD_eq_getElem?_getD, List.getElem?_eq_getElem h]; rfl
end Go.CR
namespace Go.CR
def sumL (t : List Nat) (s : List UInt8) : Nat := if t.length = 256 then 4294967295 - feed t 4294967295 s else 0
def joinL (t : List Nat) (a b : Nat) (n : Int) : Nat := if t.length = 256 ∧ 0 ≤ n ∧ n ≤ 1073741824 then feed t a (List.replicate n.toNat 0) ^^^ b else 0
theorem sumL_lt {t : List Nat} (_ht : ∀ x ∈ t, x < 4294967296) (s : List UInt8) : sumL t s < 4294967296 := by
  unfold sumL; split <;> omega
theorem sumL_in {t : List Nat} (ht : t.length = 256) (s : List UInt8) : sumL t s = 4294967295 - feed t 4294967295 s := by unfold sumL; rw [if_pos ht]
theorem sumL_out {t : List Nat} (ht : ¬ t.length = 256) (s : List UInt8) : sumL t s = 0 := by unfold sumL; rw [if_neg ht]
end Go.CR

namespace Go.Proofs.YtnmlajmaffiigaaGreatDoor
open Go.RowKit Go.VB Go.CR
theorem and1 {v : Nat} (h : v < 4294967296) : bits .and .u32 (v : Int) 1 = ((v % 2 : Nat) : Int) := by
  have := u32_and_nat v 1 h (by decide)
  rw [nat_mask1] at this; exact this
theorem and255 {v : Nat} (h : v < 4294967296) : bits .and .u32 (v : Int) 255 = ((v % 256 : Nat) : Int) := by
  have := u32_and_nat v 255 h (by decide)
  rw [nat_mask8] at this; exact this
theorem xor_pol {v : Nat} (h : v < 4294967296) : bits .xor .u32 ((v : Int) / 2) 2197175160 = ((v / 2 ^^^ pol : Nat) : Int) := by
  have := u32_xor_nat (v / 2) pol (by omega) (by decide)
  simpa [pol] using this
set_option maxRecDepth 100000 in
set_option maxHeartbeats 400000 in
theorem eight_any (v : Nat) (w : World) (hv : v < 4294967296) : Calls Tryz.prog 113 #[.int .u32 (v : Int)] w (Ret (.int .u32 (steps 8 v : Nat)) w) := by
  go_enter Tryz.func113, Tryz.ntmps113
  go_wp2
  go_loop [0, 4] (fun x i => ∃ j : Nat, x = .int .u32 (steps j v : Nat) ∧ i = .int .i64 j ∧ j ≤ 8) (fun _ i => 8 - (intOf i).toNat)
  case atStart => exact ⟨0, rfl, rfl, by omega⟩
  case round =>
    obtain ⟨j, rfl, rfl, hj⟩ := hrel
    have hlt := steps_lt hv j
    have hst : steps (j + 1) v = stp (steps j v) := rfl
    generalize hx : steps j v = x at *
    have HE := Lib.hid hx; clear hx
    by_cases h8 : j < 8
    · have ha := and1 hlt
      have hx := xor_pol hlt
      have HST := Lib.hid hst; clear hst
      by_cases h1 : x % 2 = 1
      · have hd : (bits .and .u32 (x : Int) 1 == 1) = true := by rw [ha, h1]; rfl
        have H1 := Lib.hid h1; clear ha h1
        go_wp2
        clear hd
        go_round
        case rel => exact ⟨j + 1, by rw [HST.out]; unfold stp; rw [if_pos H1.out], by go_num, h8⟩
        case measure => simp [intOf] <;> omega
      · have h0 : x % 2 = 0 := by omega
        have hd : (bits .and .u32 (x : Int) 1 == 1) = false := by rw [ha, h0]; rfl
        have H1 := Lib.hid h1; clear ha h1 h0
        go_wp2
        clear hd
        go_round
        case rel => exact ⟨j + 1, by rw [HST.out]; unfold stp; rw [if_neg H1.out]; push_cast; rfl, by go_num, h8⟩
        case measure => simp [intOf] <;> omega
    · have : j = 8 := by omega
      subst this
      go_wp2
      go_ret
      exact Ret.mk (by rw [HE.out]; rfl)
set_option maxRecDepth 100000 in
set_option maxHeartbeats 1000000 in
theorem ctable_any (w : World) : Calls Tryz.prog 76 #[] w (RetL .u32 77 tab w) := by
  have hmk := run_makeN (P := Tryz.prog) Tryz.underlying120 Tryz.inf32 256 (by decide) (by decide) w
  rw [show ((256 : Nat) : Int) = 256 from rfl] at hmk
  have hrow := RowN.made .u32 77 w w.heap.size 256 (Nat.le_refl _) (by decide)
  have hb0 : Below w.heap.size w (w.alloc (.cells (madeCells #[.int .u32 0] 256) 77)) := (Below.refl _ _).alloc (Nat.le_refl _) _
  generalize hW : (w.alloc (.cells (madeCells #[.int .u32 0] 256) 77)) = W1 at hrow hb0 hmk
  clear hW
  go_enter Tryz.func76, Tryz.ntmps76
  go_wp2
  clear hmk
  go_loopw [6] (fun i wr => ∃ j : Nat, i = .int .i64 j ∧ j ≤ 256 ∧ RowN .u32 77 wr w.heap.size w.heap.size 256 (tab.take j ++ List.replicate (256 - j) 0) ∧ Below w.heap.size w wr) (fun i _ => 256 - (intOf i).toNat)
  case atStart => exact ⟨0, rfl, by decide, hrow, hb0⟩
  case round =>
    obtain ⟨j, rfl, hj, hrw, hbel⟩ := hrel
    by_cases hlt : j < 256
    · have HS := fun w => Lib.hid (eight_any j w (by omega))
      have hf := hrw.frozen j
      have hc := hrw.cell j (by rw [List.length_append, List.length_take, List.length_replicate, tab_len]; omega)
      generalize (tab.take j ++ List.replicate (256 - j) 0).getD j 0 = V at hc
      have hst := hrw.store j (steps 8 j)
      rw [take_set tab_len hlt (tab_get hlt)] at hst
      go_wp2_with (go_at_call 113; refine (HS _).out.mono ?_; rintro e w' ⟨rfl, rfl⟩)
      clear hf hc HS
      go_roundw
      case rel => exact ⟨j + 1, by go_num, hlt, hst, hbel.setCell (Nat.le_refl _) _⟩
      case measure => simp [intOf] <;> omega
    · have hj2 : j = 256 := by omega
      have hl : (tab.take j ++ List.replicate (256 - j) 0) = tab := by rw [hj2, List.take_of_length_le (Nat.le_of_eq tab_len)]; simp
      have HL := Lib.hid hl; clear hl hj2
      go_wp2
      go_ret
      exact RetL.mk rfl (hrw.own_at (by rw [HL.out, tab_len]) HL.out) hbel
end Go.Proofs.YtnmlajmaffiigaaGreatDoor

namespace Go.CR
open Go.VB
theorem feed_bN (t : List Nat) (v : Nat) {s : ByteArray} {j : Nat} (h : j < s.size) : feed t v (s.data.toList.take (j + 1)) = shb t (feed t v (s.data.toList.take j)) (bN s j) :=
  feed_take t v (by rw [size_list]; exact h)
theorem feed_all (t : List Nat) (v : Nat) (s : ByteArray) : feed t v (s.data.toList.take s.size) = feed t v s.data.toList := by rw [List.take_of_length_le (Nat.le_of_eq (size_list s))]
end Go.CR
namespace Go.Proofs.YtnmlajmaffiigaaGreatDoor
open Go.RowKit Go.VB Go.CR
theorem xor_ix {x b : Nat} (hx : x < 256) (hb : b < 256) : bits .xor .u32 (x : Int) (b : Int) = ((x ^^^ b : Nat) : Int) := u32_xor_nat x b (by omega) (by omega)
theorem xor_out {v y : Nat} (hv : v < 4294967296) (hy : y < 4294967296) : bits .xor .u32 ((v : Int) / 256) (y : Int) = ((v / 256 ^^^ y : Nat) : Int) := by
  have := u32_xor_nat (v / 256) y (by omega) hy
  simpa using this
theorem not32 {x : Nat} (hx : x < 4294967296) : bits .xor .u32 IntKind.u32.max (x : Int) = ((4294967295 - x : Nat) : Int) := by
  have h := u32_xor_nat 4294967295 x (by decide) hx
  have e : 4294967295 ^^^ x = 4294967295 - x := by
    apply Nat.eq_of_testBit_eq
    intro i
    have h1 := Nat.testBit_two_pow_sub_succ (n := 32) hx i
    rw [show (2 : Nat) ^ 32 - (x + 1) = 4294967295 - x from by omega] at h1
    rw [h1, Nat.testBit_xor, show (4294967295 : Nat) = 2 ^ 32 - 1 from rfl, Nat.testBit_two_pow_sub_one]
    by_cases hi : i < 32
    · simp [hi]
    · have : x.testBit i = false := Nat.testBit_lt_two_pow (Nat.lt_of_lt_of_le hx (Nat.pow_le_pow_right (n := 2) (i := 32) (by decide) (by omega)))
      simp [hi, this]
  rw [e] at h; exact h
set_option maxRecDepth 100000 in
set_option maxHeartbeats 400000 in
theorem shift_any (vt : Value) (t : List Nat) (v b : Nat) (w : World) (hr : RdN .u32 w w.heap.size vt t) (hl : t.length = 256) (ht : ∀ x ∈ t, x < 4294967296) (hv : v < 4294967296) (hb : b < 256) :
    Calls Tryz.prog 112 #[vt, .int .u32 (v : Int), .int .u8 (b : Int)] w (Ret (.int .u32 (shb t v b : Nat)) w) := by
  obtain ⟨A, c, rfl, hc1, hc2, hcell⟩ := hr
  have hm : v % 256 < 256 := Nat.mod_lt _ (by decide)
  have hi : v % 256 ^^^ b < 256 := xor_lt8 hm hb
  obtain ⟨ad, rfl, _, hc⟩ := hcell (v % 256 ^^^ b) (by rw [hl]; exact hi)
  clear hcell
  have hy := get_lt (i := v % 256 ^^^ b) ht
  have e1 := and255 hv
  have e2 := xor_ix hm hb
  have e3 := xor_out hv hy
  have hs : shb t v b = v / 256 ^^^ t.getD (v % 256 ^^^ b) 0 := rfl
  have HS := Lib.hid hs; clear hs
  generalize v % 256 = x at *
  generalize x ^^^ b = i at *
  generalize t.getD i 0 = y at *
  have HL := Lib.hid hl; clear hl ht
  rw [HL.out] at hc1 ⊢
  go_enter Tryz.func112, Tryz.ntmps112
  go_wp2
  go_ret
  exact Ret.mk (by rw [HS.out]; rfl)
set_option maxRecDepth 100000 in
set_option maxHeartbeats 1000000 in
theorem csum_any (vt : Value) (t : List Nat) (s : ByteArray) (w : World) (hr : RdN .u32 w w.heap.size vt t) (ht : ∀ x ∈ t, x < 4294967296) (zs : s.size ≤ 140737488351232) :
    Calls Tryz.prog 75 #[vt, .string s] w (Ret (.int .u32 (sumL t s.data.toList : Nat)) w) := by
  have hr2 := hr
  obtain ⟨A, c, rfl, hc1, hc2, _⟩ := hr2
  unfold maxLen at hc2
  have HR := Lib.hid hr; clear hr
  by_cases hl : t.length = 256
  · have HL := Lib.hid hl
    have hd : ((t.length : Int) != 256) = false := by rw [hl]; rfl
    have HS := Lib.hid (sumL_in hl s.data.toList)
    clear hl
    have hb := get_bN s
    go_enter Tryz.func75, Tryz.ntmps75
    go_wp2
    go_loop [5, 12] (fun x i => ∃ j : Nat, x = .int .u32 (feed t 4294967295 (s.data.toList.take j) : Nat) ∧ i = .int .i64 j ∧ j ≤ s.size) (fun _ i => s.size - (intOf i).toNat)
    case atStart => exact ⟨0, rfl, rfl, Nat.zero_le _⟩
    case round =>
      obtain ⟨j, rfl, rfl, hj⟩ := hrel
      have hv := feed_lt ht (s.data.toList.take j) (v := 4294967295) (by decide)
      have hn := fun h => feed_bN t 4294967295 (s := s) (j := j) h
      generalize hx : feed t 4294967295 (s.data.toList.take j) = x at *
      have HE := Lib.hid hx; have HN := Lib.hid hn; clear hx hn
      by_cases hlt : j < s.size
      · have hC := Lib.hid (shift_any _ t x (bN s j) w HR.out HL.out ht hv (bN_lt s j))
        go_wp2_with (go_at_call 112; refine hC.out.mono ?_; rintro e w' ⟨rfl, rfl⟩)
        go_round
        case rel => exact ⟨j + 1, by rw [HN.out hlt], by go_num, hlt⟩
        case measure => simp [intOf] <;> omega
      · have hj2 : j = s.size := by omega
        have hf : feed t 4294967295 s.data.toList = x := by rw [← HE.out, hj2, feed_all]
        have HF := Lib.hid hf; clear hj2 hf
        go_wp2
        go_ret
        exact Ret.mk (by rw [HS.out, HF.out]; exact vint (not32 hv))
  · have hd : ((t.length : Int) != 256) = true := by simp; omega
    rw [sumL_out hl]
    go_enter Tryz.func75, Tryz.ntmps75
    go_wp2
    go_ret
    exact Ret.mk rfl
end Go.Proofs.YtnmlajmaffiigaaGreatDoor
