/- The walks over package crc and its reference: tables and sums. -/
import Derived.Test.YtfkdenlpailmeaaDoorCrc
namespace Go.Proofs.YtfkdenlpailmeaaDoor
open Go.RowKit Go.VB Go.CR
theorem and1 {v : Nat} (h : v < 4294967296) : bits .and .u32 (v : Int) 1 = ((v % 2 : Nat) : Int) := by
  have := u32_and_nat v 1 h (by decide)
  rw [nat_mask1] at this; exact this
theorem and255 {v : Nat} (h : v < 4294967296) : bits .and .u32 (v : Int) 255 = ((v % 256 : Nat) : Int) := by
  have := u32_and_nat v 255 h (by decide)
  rw [nat_mask8] at this; exact this
theorem xor_pol {v : Nat} (h : v < 4294967296) : bits .xor .u32 ((v : Int) / 2) 2197175160 = ((v / 2 ^^^ pol : Nat) : Int) := by
  have := u32_xor_nat (v / 2) pol (by omega) (by decide)
  simpa [pol] using this
set_option maxRecDepth 100000 in
set_option maxHeartbeats 400000 in
theorem eight_any (v : Nat) (w : World) (hv : v < 4294967296) : Calls Tryd.prog 47 #[.int .u32 (v : Int)] w (Ret (.int .u32 (steps 8 v : Nat)) w) := by
  go_enter Tryd.func47, Tryd.ntmps47
  go_wp2
  go_loop [0, 4] (fun x i => ∃ j : Nat, x = .int .u32 (steps j v : Nat) ∧ i = .int .i64 j ∧ j ≤ 8) (fun _ i => 8 - (intOf i).toNat)
  case atStart => exact ⟨0, rfl, rfl, by omega⟩
  case round =>
    obtain ⟨j, rfl, rfl, hj⟩ := hrel
    have hlt := steps_lt hv j
    have hst : steps (j + 1) v = stp (steps j v) := rfl
    generalize hx : steps j v = x at *
    have HE := Lib.hid hx; clear hx
    by_cases h8 : j < 8
    · have ha := and1 hlt
      have hx := xor_pol hlt
      have HST := Lib.hid hst; clear hst
      by_cases h1 : x % 2 = 1
      · have hd : (bits .and .u32 (x : Int) 1 == 1) = true := by rw [ha, h1]; rfl
        have H1 := Lib.hid h1; clear ha h1
        go_wp2
        clear hd
        go_round
        case rel => exact ⟨j + 1, by rw [HST.out]; unfold stp; rw [if_pos H1.out], by go_num, h8⟩
        case measure => simp [intOf] <;> omega
      · have h0 : x % 2 = 0 := by omega
        have hd : (bits .and .u32 (x : Int) 1 == 1) = false := by rw [ha, h0]; rfl
        have H1 := Lib.hid h1; clear ha h1 h0
        go_wp2
        clear hd
        go_round
        case rel => exact ⟨j + 1, by rw [HST.out]; unfold stp; rw [if_neg H1.out]; push_cast; rfl, by go_num, h8⟩
        case measure => simp [intOf] <;> omega
    · have : j = 8 := by omega
      subst this
      go_wp2
      go_ret
      exact Ret.mk (by rw [HE.out]; rfl)
set_option maxRecDepth 100000 in
set_option maxHeartbeats 1000000 in
theorem ctable_any (w : World) : Calls Tryd.prog 33 #[] w (RetL .u32 46 tab w) := by
  have hmk := run_makeN (P := Tryd.prog) Tryd.underlying62 Tryd.inf32 256 (by decide) (by decide) w
  rw [show ((256 : Nat) : Int) = 256 from rfl] at hmk
  have hrow := RowN.made .u32 46 w w.heap.size 256 (Nat.le_refl _) (by decide)
  have hb0 : Below w.heap.size w (w.alloc (.cells (madeCells #[.int .u32 0] 256) 46)) := (Below.refl _ _).alloc (Nat.le_refl _) _
  generalize hW : (w.alloc (.cells (madeCells #[.int .u32 0] 256) 46)) = W1 at hrow hb0 hmk
  clear hW
  go_enter Tryd.func33, Tryd.ntmps33
  go_wp2
  clear hmk
  go_loopw [6] (fun i wr => ∃ j : Nat, i = .int .i64 j ∧ j ≤ 256 ∧ RowN .u32 46 wr w.heap.size w.heap.size 256 (tab.take j ++ List.replicate (256 - j) 0) ∧ Below w.heap.size w wr) (fun i _ => 256 - (intOf i).toNat)
  case atStart => exact ⟨0, rfl, by decide, hrow, hb0⟩
  case round =>
    obtain ⟨j, rfl, hj, hrw, hbel⟩ := hrel
    by_cases hlt : j < 256
    · have HS := fun w => Lib.hid (eight_any j w (by omega))
      have hf := hrw.frozen j
      have hc := hrw.cell j (by rw [List.length_append, List.length_take, List.length_replicate, tab_len]; omega)
      generalize (tab.take j ++ List.replicate (256 - j) 0).getD j 0 = V at hc
      have hst := hrw.store j (steps 8 j)
      rw [take_set tab_len hlt (tab_get hlt)] at hst
      go_wp2_with (go_at_call 47; refine (HS _).out.mono ?_; rintro e w' ⟨rfl, rfl⟩)
      clear hf hc HS
      go_roundw
      case rel => exact ⟨j + 1, by go_num, hlt, hst, hbel.setCell (Nat.le_refl _) _⟩
      case measure => simp [intOf] <;> omega
    · have hj2 : j = 256 := by omega
      have hl : (tab.take j ++ List.replicate (256 - j) 0) = tab := by rw [hj2, List.take_of_length_le (Nat.le_of_eq tab_len)]; simp
      have HL := Lib.hid hl; clear hl hj2
      go_wp2
      go_ret
      exact RetL.mk rfl (hrw.own_at (by rw [HL.out, tab_len]) HL.out) hbel
set_option maxRecDepth 100000 in
set_option maxHeartbeats 1000000 in
theorem rtable_any (w : World) : Calls Tryd.prog 35 #[] w (RetL .u32 46 tab w) := by
  go_enter Tryd.func35, Tryd.ntmps35
  go_wp2
  go_loopw [1, 2] (fun o i wr => ∃ (j : Nat) (l : List Nat), i = .int .u32 j ∧ j ≤ 256 ∧ OwnN .u32 46 wr w.heap.size o l ∧ l.length = j ∧ l = tab.take j ∧ Below w.heap.size w wr) (fun _ i _ => 256 - (intOf i).toNat)
  case atStart => exact ⟨0, [], rfl, by decide, OwnN.nil _ _ _ _, rfl, rfl, Below.refl _ _⟩
  case round =>
    obtain ⟨j, l, rfl, hj, hown, hlen, hl, hbel⟩ := hrel
    have hlen' : l.length ≤ 256 := by omega
    have HL := Lib.hid hl; have HN := Lib.hid hlen; clear hl hlen
    by_cases hlt : j < 256
    · go_wp2
      go_loopw [3, 4] (fun x i wq => ∃ k : Nat, x = .int .u32 (steps k j : Nat) ∧ i = .int .i64 k ∧ k ≤ 8 ∧ wq = wr) (fun _ i _ => 8 - (intOf i).toNat)
      case atStart => exact ⟨0, rfl, rfl, by omega, rfl⟩
      case round =>
        obtain ⟨k, rfl, rfl, hk, rfl⟩ := hrel
        have hxl := steps_lt (v := j) (by omega) k
        have hst : steps (k + 1) j = stp (steps k j) := rfl
        generalize hx : steps k j = x at *
        have HE := Lib.hid hx; have HST := Lib.hid hst; clear hx hst
        by_cases h8 : k < 8
        · have ha := and1 hxl
          have hx := xor_pol hxl
          by_cases h1 : x % 2 = 1
          · have hd : (bits .and .u32 (x : Int) 1 == 1) = true := by rw [ha, h1]; rfl
            have H1 := Lib.hid h1; clear ha h1
            go_wp2
            clear hd
            go_roundw
            case rel => exact ⟨k + 1, by rw [HST.out]; unfold stp; rw [if_pos H1.out], by go_num, h8, by first | rfl | trivial⟩
            case measure => simp [intOf] <;> omega
          · have h0 : x % 2 = 0 := by omega
            have hd : (bits .and .u32 (x : Int) 1 == 1) = false := by rw [ha, h0]; rfl
            have H1 := Lib.hid h1; clear ha h1 h0
            go_wp2
            clear hd
            go_roundw
            case rel => exact ⟨k + 1, by rw [HST.out]; unfold stp; rw [if_neg H1.out]; push_cast; rfl, by go_num, h8, by first | rfl | trivial⟩
            case measure => simp [intOf] <;> omega
        · have hk8 : k = 8 := by omega
          have HE8 := Lib.hid (show steps 8 j = x by rw [← hk8]; exact HE.out)
          clear hk8 HE HST
          have hsz := hbel.size
          go_wp2_with (at_builtin; refine wpl_appN rfl _ _ 62 rfl w.heap.size 46 .u32 4 Tryd.underlying62 Tryd.inf32 _ l rfl (hown.alloc _) (wr.heap.size + 1) _ [x] rfl (RdN.one _ _ _ _ _ (by decide) (by decide)) (by unfold maxLen; simp only [List.length_singleton]; omega) (by simp only [List.length_singleton]; omega) (by simp; omega) ?_)
          intro v' w' hown' hb' _
          go_wp2
          go_roundw
          case rel => exact ⟨j + 1, _, by go_num, hlt, hown', by rw [List.length_append, HN.out]; rfl, by rw [tab_take hlt, HL.out, HE8.out], (hbel.alloc hsz _).trans hb'⟩
          case measure => simp [intOf] <;> omega
    · have hj2 : j = 256 := by omega
      have hl : l = tab := by rw [HL.out, hj2, List.take_of_length_le (Nat.le_of_eq tab_len)]
      have HT := Lib.hid hl; clear hl hj2
      go_wp2
      go_ret
      exact RetL.mk rfl (by rw [← HT.out]; exact hown) hbel
end Go.Proofs.YtfkdenlpailmeaaDoor
