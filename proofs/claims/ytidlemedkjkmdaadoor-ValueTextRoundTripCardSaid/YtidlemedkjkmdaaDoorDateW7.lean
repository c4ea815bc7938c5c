/- The walks over package date: writing a day's text. -/
import Derived.Test.YtidlemedkjkmdaaDoorDateW3
import Derived.Test.YtidlemedkjkmdaaDoorDateT
namespace Go.DT
open Go.VB
theorem row_set (v n j x : Nat) (h : j < n) : (List.replicate (n - j) 0 ++ dg v j).set (n - 1 - j) x = List.replicate (n - (j + 1)) 0 ++ x :: dg v j := by
  have e : n - j = (n - (j + 1)) + 1 := by omega
  rw [e, List.replicate_succ', List.append_assoc, show n - 1 - j = (List.replicate (n - (j + 1)) 0).length from by rw [List.length_replicate]; omega, List.set_append_right _ _ (Nat.le_refl _), Nat.sub_self]
  rfl
theorem div_succ (v j : Nat) : v / 10 ^ (j + 1) = v / 10 ^ j / 10 := by rw [Nat.pow_succ, ← Nat.div_div_eq_div_mul]
end Go.DT
namespace Go.Proofs.YtidlemedkjkmdaaDoor
open Go.RowKit Go.VB Go.DT
theorem dg_ownB {e : TypeId} {w : World} {base g c : Nat} {v n : Nat} (h : RowN .u8 e w base g c (dg v n)) : OwnB e w base (.slice (some ⟨g, 0, none⟩) n c) (by8 (dg v n)) := by
  have hb : (by8 (dg v n)).map bv = nvs .u8 (dg v n) := by
    unfold by8
    rw [List.map_map]
    refine List.map_congr_left fun x hx => ?_
    have := dg_lt v n x hx
    simp only [Function.comp, bv]
    rw [UInt8.toNat_ofNat', Nat.mod_eq_of_lt (by omega)]
  unfold OwnB
  rw [hb, by8_len]
  have h' : OwnN .u8 e w base (.slice (some ⟨g, 0, none⟩) (dg v n).length c) (dg v n) := h
  rw [dg_len] at h'
  unfold OwnN at h'
  exact h'
set_option maxRecDepth 100000 in
set_option maxHeartbeats 1000000 in
theorem digits_any (v n : Nat) (w : World) (hv : v ≤ 1000000000) (hn : n ≤ 20) (hn1 : 1 ≤ n) : Calls Tryd.prog 36 #[.int .i64 (v : Int), .int .i64 (n : Int)] w (RetB (.string (str (by8 (dg v n)))) w) := by
  have hmk := run_makeN (P := Tryd.prog) Tryd.underlying59 Tryd.inf8 n (by omega) (by unfold maxLen; omega) w
  have hrow := RowN.made .u8 5 w w.heap.size n (Nat.le_refl _) (by unfold maxLen; omega)
  have hb0 : Below w.heap.size w (w.alloc (.cells (madeCells #[.int .u8 0] n) 5)) := (Below.refl _ _).alloc (Nat.le_refl _) _
  generalize hW : (w.alloc (.cells (madeCells #[.int .u8 0] n) 5)) = W1 at hrow hb0 hmk
  clear hW
  go_enter Tryd.func36, Tryd.ntmps36
  go_wp2
  clear hmk
  go_loopw [0, 6] (fun x i wr => ∃ j : Nat, x = .int .i64 (v / 10 ^ j : Nat) ∧ i = .int .i64 ((n : Int) - 1 - j) ∧ j ≤ n ∧ RowN .u8 5 wr w.heap.size w.heap.size n (List.replicate (n - j) 0 ++ dg v j) ∧ Below w.heap.size w wr) (fun _ i _ => (intOf i + 1).toNat)
  case atStart => exact ⟨0, by rw [Nat.pow_zero, Nat.div_one], by go_num, Nat.zero_le _, by rw [Nat.sub_zero]; simpa [dg] using hrow, hb0⟩
  case round =>
    obtain ⟨j, rfl, rfl, hj, hrw, hbel⟩ := hrel
    have hxl : v / 10 ^ j ≤ v := Nat.div_le_self _ _
    have hds := div_succ v j
    have hdg : dg v (j + 1) = (48 + v / 10 ^ j % 10) :: dg v j := rfl
    generalize v / 10 ^ j = x at *
    have HDS := Lib.hid hds; have HDG := Lib.hid hdg; clear hds hdg
    by_cases hlt : j < n
    · have hlen : (List.replicate (n - j) 0 ++ dg v j).length = n := by rw [List.length_append, List.length_replicate, dg_len]; omega
      have hf := hrw.frozen (n - 1 - j)
      have hc := hrw.cell (n - 1 - j) (by rw [hlen]; omega)
      have hst := hrw.store (n - 1 - j) (48 + x % 10)
      rw [row_set v n j _ hlt, ← HDG.out] at hst
      generalize (List.replicate (n - j) 0 ++ dg v j).getD (n - 1 - j) 0 = V at hc
      have hq : (n : Int) - 1 - j = ((n - 1 - j : Nat) : Int) := by omega
      have hql : n - 1 - j < n := by omega
      have hqj : ((n - 1 - j : Nat) : Int) - 1 = (n : Int) - 1 - ((j + 1 : Nat) : Int) := by omega
      have HQJ := Lib.hid hqj; clear hqj
      have HL := Lib.hid hlen; clear hlen
      rw [hq]
      generalize n - 1 - j = q at *
      clear hq
      go_wp2
      go_roundw
      case rel => exact ⟨j + 1, by rw [HDS.out]; go_num, by rw [← HQJ.out], hlt, hst, hbel.setCell (Nat.le_refl _) _⟩
      case measure => simp [intOf] <;> omega
    · have hj2 : j = n := by omega
      subst hj2
      rw [Nat.sub_self, List.replicate_zero, List.nil_append] at hrw
      have hcv := run_string_of_own (P := Tryd.prog) 59 9 5 Tryd.underlying59 Tryd.underlying5 Tryd.underlying9 (dg_ownB hrw)
      go_wp2
      go_ret
      exact RetB.mk rfl hbel
theorem cat8 {P : Program} (a b : List Nat) (h : a.length + b.length ≤ 1000) (w : World) : (Op.stringOp .add (str (by8 a)) (str (by8 b))).run P w = .ok (.string (str (by8 (a ++ b)))) w := by
  rw [run_string_add_sum w _ _ (by rw [str_size, str_size, by8_len, by8_len]; omega), str_append, ← by8_app]
set_option maxRecDepth 100000 in
set_option maxHeartbeats 1000000 in
theorem format_at (n : Int) (y m d : Nat) (w : World) (hok : okD y m d) (hn : num y m d = n) : Calls Tryd.prog 17 #[.int .i64 n] w (RetB (.tuple #[.string (str (by8 (txt y m d))), .int .i64 0]) w) := by
  have hC := Lib.hid (civil_at n y m d w hok hn)
  have h1 : y ≤ 1000000000 := by have := hok.2.1; omega
  have h2 : m ≤ 1000000000 := by have := hok.2.2.2.1; omega
  have h3 : d ≤ 1000000000 := by have := hok.2.2.2.2.2; have := dim_bd (y : Int) (m : Int); omega
  have g1 := fun w => Lib.hid (digits_any y 4 w h1 (by decide) (by decide))
  have g2 := fun w => Lib.hid (digits_any m 2 w h2 (by decide) (by decide))
  have g3 := fun w => Lib.hid (digits_any d 2 w h3 (by decide) (by decide))
  have c1 := fun w => cat8 (P := Tryd.prog) (dg y 4) [45] (by rw [dg_len]; decide) w
  have c2 := fun w => cat8 (P := Tryd.prog) (dg y 4 ++ [45]) (dg m 2) (by simp [dg_len]) w
  have c3 := fun w => cat8 (P := Tryd.prog) (dg y 4 ++ [45] ++ dg m 2) [45] (by simp [dg_len]) w
  have c4 := fun w => cat8 (P := Tryd.prog) (dg y 4 ++ [45] ++ dg m 2 ++ [45]) (dg d 2) (by simp [dg_len]) w
  rw [show dg y 4 ++ [45] ++ dg m 2 ++ [45] ++ dg d 2 = txt y m d from rfl] at c4
  rw [show str (by8 [45]) = ⟨#[45]⟩ from rfl] at c1 c3
  generalize str (by8 (txt y m d)) = T at *
  generalize str (by8 (dg y 4 ++ [45] ++ dg m 2 ++ [45])) = T3 at *
  generalize str (by8 (dg y 4 ++ [45] ++ dg m 2)) = T2 at *
  generalize str (by8 (dg y 4 ++ [45])) = T1 at *
  generalize str (by8 (dg y 4)) = A at *
  generalize str (by8 (dg m 2)) = B at *
  generalize str (by8 (dg d 2)) = D at *
  clear hok hn h1 h2 h3
  go_enter Tryd.func17, Tryd.ntmps17
  go_wp2_with (go_at_call 35; refine hC.out.mono ?_; rintro e w' ⟨rfl, rfl⟩)
  refine (g1 _).out.mono ?_
  rintro e w1 ⟨rfl, b1⟩
  go_wp2_with fail
  refine (g2 _).out.mono ?_
  rintro e w2 ⟨rfl, b2⟩
  go_wp2_with fail
  refine (g3 _).out.mono ?_
  rintro e w3 ⟨rfl, b3⟩
  go_wp2
  go_ret2
  exact RetB.mk rfl (bel_trans (bel_trans b1 b2) b3)
set_option maxRecDepth 100000 in
set_option maxHeartbeats 400000 in
theorem format_out (n : Int) (w : World) (h : n < -719162 ∨ 2932896 < n) : Calls Tryd.prog 17 #[.int .i64 n] w (RetB (.tuple #[.string ⟨#[]⟩, .int .i64 4]) w) := by
  have hC := Lib.hid (civil_out n w h)
  clear h
  go_enter Tryd.func17, Tryd.ntmps17
  go_wp2_with (go_at_call 35; refine hC.out.mono ?_; rintro e w' ⟨rfl, rfl⟩)
  go_ret2
  exact RetB.mk rfl (Below.refl _ _)
end Go.Proofs.YtidlemedkjkmdaaDoor
