/- The walks over the reference's writing of decimals: powers, digits, texts. -/
import Derived.Test.YtidlemedkjkmdaaDoorDecW1
namespace Go.DC
open Go.VB Go.DT
theorem ten_cut : ∀ d, d < 10 → (⟨#[48, 49, 50, 51, 52, 53, 54, 55, 56, 57]⟩ : ByteArray).extract d (d + 1) = str (by8 [48 + d]) := by
  intro d hd
  have hc : d = 0 ∨ d = 1 ∨ d = 2 ∨ d = 3 ∨ d = 4 ∨ d = 5 ∨ d = 6 ∨ d = 7 ∨ d = 8 ∨ d = 9 := by omega
  rcases hc with rfl | rfl | rfl | rfl | rfl | rfl | rfl | rfl | rfl | rfl <;> (apply ByteArray.ext; rfl)
theorem cat_by8 (a b : List Nat) : str (by8 a) ++ str (by8 b) = str (by8 (a ++ b)) := by rw [str_append, ← by8_app]
theorem dg_str_size (v j : Nat) : (str (by8 (dg v j))).size = j := by rw [str_size, by8_len, dg_len]
theorem dg_step (v j : Nat) : dg v (j + 1) = [48 + v / 10 ^ j % 10] ++ dg v j := rfl
theorem div_step (v j : Nat) : v / 10 ^ (j + 1) = v / 10 ^ j / 10 := by rw [Nat.pow_succ, ← Nat.div_div_eq_div_mul]
theorem div_pos_iff {v j : Nat} : 0 < v / 10 ^ j ↔ j < len v := by
  exact Nat.pos_iff_ne_zero.trans ((not_congr div_pow_zero).trans Nat.not_le)
theorem str_size_app {a b : ByteArray} {n : Nat} {x : Nat} (h : a = str (by8 [x])) (hb : b.size = n) : (a ++ b).size = n + 1 := by
  rw [ByteArray.size_append, h, str_size, by8_len, hb, List.length_singleton, Nat.add_comm]
/-- The size of a text, 0 of any other value. -/
def szOf : Value → Nat
  | .string t => t.size
  | _ => 0
end Go.DC
namespace Go.Proofs.YtidlemedkjkmdaaDoor
open Go.RowKit Go.VB Go.DT Go.DC
set_option maxRecDepth 100000 in
set_option maxHeartbeats 400000 in
theorem power_any (k : Nat) (w : World) (hk : k ≤ 18) : Calls Tryd.prog 46 #[.int .i64 (k : Int)] w (Ret (.int .i64 (10 ^ k : Nat)) w) := by
  go_enter Tryd.func46, Tryd.ntmps46
  go_wp2
  go_loop [3, 4] (fun p i => ∃ j : Nat, p = .int .i64 (10 ^ j : Nat) ∧ i = .int .i64 j ∧ j ≤ k) (fun _ i => k - (intOf i).toNat)
  case atStart => exact ⟨0, rfl, rfl, Nat.zero_le _⟩
  case round =>
    obtain ⟨j, rfl, rfl, hj⟩ := hrel
    by_cases hlt : j < k
    · have hb : 10 ^ j ≤ 10 ^ 17 := Nat.pow_le_pow_right (by decide) (by omega)
      rw [show (10 : Nat) ^ 17 = 100000000000000000 from rfl] at hb
      have hs : 10 ^ (j + 1) = 10 ^ j * 10 := Nat.pow_succ ..
      generalize 10 ^ j = x at *
      have HS := Lib.hid hs; clear hs
      go_wp2
      go_round
      case rel => exact ⟨j + 1, by rw [HS.out]; go_num, by go_num, hlt⟩
      case measure => simp [intOf] <;> omega
    · have hj2 : j = k := by omega
      subst hj2
      go_wp2
      go_ret
      exact Ret.mk rfl
set_option maxRecDepth 100000 in
set_option maxHeartbeats 1000000 in
theorem rdigits_any (v k : Nat) (w : World) (hv : v ≤ 999999999999999999) (hk : k ≤ 18) : Calls Tryd.prog 44 #[.int .i64 (v : Int), .int .i64 (k : Int)] w (Ret (.string (str (by8 (dg v (max k (len v)))))) w) := by
  have hl := len_max hv
  go_enter Tryd.func44, Tryd.ntmps44
  go_wp2
  go_loop [0, 5] (fun x s => ∃ j : Nat, x = .int .i64 (v / 10 ^ j : Nat) ∧ s = .string (str (by8 (dg v j))) ∧ j ≤ max k (len v)) (fun _ s => 20 - szOf s)
  case atStart => exact ⟨0, by rw [Nat.pow_zero, Nat.div_one], rfl, Nat.zero_le _⟩
  case round =>
    obtain ⟨j, rfl, rfl, hj⟩ := hrel
    have hz := dg_str_size v j
    have hz1 := Nat.le_of_eq hz
    have hz2 := Nat.le_of_eq hz.symm
    have hxl : v / 10 ^ j ≤ v := Nat.div_le_self _ _
    have hpos := div_pos_iff (v := v) (j := j)
    have hst := div_step v j
    have hdg := dg_step v j
    generalize v / 10 ^ j = x at *
    have hcut := ten_cut (x % 10) (by omega)
    have hcat := cat_by8 [48 + x % 10] (dg v j)
    rw [← hdg] at hcat
    have HST := Lib.hid hst; have HC := Lib.hid hcut; have HA := Lib.hid hcat; have HZ := Lib.hid hz; have HP := Lib.hid hpos; clear hst hdg hcut hcat hz hpos
    generalize hT : str (by8 (dg v j)) = T at *
    by_cases hx : 0 < x
    · have hjl := HP.out.1 hx
      go_wp2
      exact ⟨⟨j + 1, by rw [HST.out]; go_num, by rw [HC.out, HA.out], by omega⟩, by
        have h1 := str_size_app HC.out HZ.out
        show 20 - ((ByteArray.extract _ _ _ ++ T).size) < 20 - T.size
        omega⟩
    · have hjl : ¬ j < len v := fun h => hx (HP.out.2 h)
      by_cases hjk : j < k
      · go_wp2
        exact ⟨⟨j + 1, by rw [HST.out]; go_num, by rw [HC.out, HA.out], by omega⟩, by
          have h1 := str_size_app HC.out HZ.out
          show 20 - ((ByteArray.extract _ _ _ ++ T).size) < 20 - T.size
          omega⟩
      · have hjm : max k (len v) = j := by omega
        have HJM := Lib.hid hjm; have HTT := Lib.hid hT; clear hjm hT
        go_wp2
        go_ret
        exact Ret.mk (by rw [HJM.out, HTT.out]; rfl)
end Go.Proofs.YtidlemedkjkmdaaDoor
