/- The reference's texts of values: numbers, days, Format. -/
import Derived.Test.YtidlemedkjkmdaaDoorValS
import Derived.Test.YtidlemedkjkmdaaDoorDecW3
import Derived.BigQuiet
namespace Go.VL
open Go.RowKit Go.VB Go.DT Go.DC
theorem dg_tail (u : Nat) : ∀ k, dg (u / 10) k ++ [48 + u % 10] = dg u (k + 1)
  | 0 => by rw [dg_one]; rfl
  | k + 1 => by
    show (48 + u / 10 / 10 ^ k % 10) :: (dg (u / 10) k ++ [48 + u % 10]) = (48 + u / 10 ^ (k + 1) % 10) :: dg u (k + 1)
    rw [dg_tail u k, Nat.div_div_eq_div_mul, Nat.pow_succ, Nat.mul_comm 10]
theorem len_pos' {u : Nat} (h : 1 ≤ u) : 1 ≤ len u := by
  have h1 := len_le u 0
  rw [Nat.pow_zero] at h1
  by_cases h2 : len u ≤ 0
  · have := h1.2 h2; omega
  · omega
theorem dec_dg (u : Nat) : Lib.decDigits u = by8 (dg u (max 1 (len u))) := by
  induction u using Nat.strongRecOn with
  | ind u ih =>
    by_cases h : u < 10
    · have h1 : max 1 (len u) = 1 := by have := (len_le u 1).1 (by omega); omega
      rw [Lib.decDigits_one h, h1, dg_one, Nat.mod_eq_of_lt h]; rfl
    · have h1 := len_pos' (u := u / 10) (by omega)
      have h2 : len u = len (u / 10) + 1 := by rw [len, if_neg (by omega)]
      have h3 : max 1 (len u) = max 1 (len (u / 10)) + 1 := by omega
      rw [Lib.decDigits, dif_neg h, ih (u / 10) (by omega), h3, ← dg_tail, by8_app]; rfl
theorem NT_pos (m : Nat) : NT (m : Int) = str (by8 (dg m (max 1 (len m)))) := by
  unfold NT Lib.itoa
  rw [if_neg (by omega), Int.toNat_natCast, dec_dg]; rfl
theorem NT_neg {m : Nat} (h : 1 ≤ m) : NT (-(m : Int)) = str (by8 (45 :: dg m (max 1 (len m)))) := by
  unfold NT Lib.itoa
  rw [if_pos (by omega), Int.natAbs_neg, Int.natAbs_natCast, dec_dg]; rfl
theorem day_text {n : Int} {y m d : Nat} (hok : okD y m d) (hn : num y m d = n) : isDay n (str (by8 (txt y m d))) := ⟨y, m, d, hok, hn, rfl⟩
theorem day_cat (y m d : Nat) : str (by8 (dg y 4)) ++ ⟨#[45]⟩ ++ str (by8 (dg m 2)) ++ ⟨#[45]⟩ ++ str (by8 (dg d 2)) = str (by8 (txt y m d)) := by
  rw [show (⟨#[45]⟩ : ByteArray) = str (by8 [45]) from rfl, cat_by8, cat_by8, cat_by8, cat_by8]; rfl
end Go.VL
namespace Go.Proofs.YtidlemedkjkmdaaDoor
open Go.RowKit Go.VB Go.VL Go.DT Go.DC
set_option linter.constructorNameAsVariable false
set_option maxRecDepth 100000 in
set_option maxHeartbeats 1000000 in
theorem rnumb_small (m : Nat) (w : World) (hm : m < 10) : Calls Tryd.prog 28 #[.int .i64 (m : Int)] w (Ret (.string (NT (m : Int))) w) := by
  have HT := Lib.hid (show NT (m : Int) = str (by8 [48 + m]) from by
    rw [NT_pos, show max 1 (len m) = 1 from by have := (len_le m 1).1 (by omega); omega, dg_one, Nat.mod_eq_of_lt hm])
  have HC := Lib.hid (ten_cut m hm)
  go_enter Tryd.func28, Tryd.ntmps28
  go_wp2
  go_ret
  exact Ret.mk (by rw [HT.out, ← HC.out]; rfl)
set_option maxRecDepth 100000 in
set_option maxHeartbeats 1000000 in
theorem rnumb_pos (m : Nat) (w : World) (hm : 10 ≤ m) (hx : m ≤ 9223372036854775807) : Calls Tryd.prog 28 #[.int .i64 (m : Int)] w (Ret (.string (NT (m : Int))) w) := by
  have HT := Lib.hid (show NT (m : Int) = str (by8 (dg m (len m))) from by rw [NT_pos, show max 1 (len m) = len m from by have := len_pos' (u := m) (by omega); omega])
  have hl : len m ≤ 19 := (len_le m 19).1 (by omega)
  go_enter Tryd.func28, Tryd.ntmps28
  go_wp2
  go_loop [0, 3] (fun x s => ∃ j : Nat, x = .int .i64 (m / 10 ^ j : Nat) ∧ s = .string (str (by8 (dg m j))) ∧ j ≤ len m) (fun _ s => 20 - szOf s)
  case atStart => exact ⟨0, by rw [Nat.pow_zero, Nat.div_one], rfl, Nat.zero_le _⟩
  case round =>
    obtain ⟨j, rfl, rfl, hj⟩ := hrel
    have hz := dg_str_size m j
    have hz1 := Nat.le_of_eq hz
    have hz2 := Nat.le_of_eq hz.symm
    have hxl : m / 10 ^ j ≤ m := Nat.div_le_self _ _
    have hpos := div_pos_iff (v := m) (j := j)
    have hst := div_step m j
    have hdg := dg_step m j
    generalize m / 10 ^ j = x at *
    have hcut := ten_cut (x % 10) (by omega)
    have hcat := cat_by8 [48 + x % 10] (dg m j)
    rw [← hdg] at hcat
    have HST := Lib.hid hst; have HC := Lib.hid hcut; have HA := Lib.hid hcat; have HZ := Lib.hid hz; have HP := Lib.hid hpos; clear hst hdg hcut hcat hz hpos
    generalize hT : str (by8 (dg m j)) = T at *
    by_cases hx0 : 0 < x
    · have hjl := HP.out.1 hx0
      have hne : ((x : Int) != 0) = true := ine_t (by omega)
      have hd : decide ((x : Int) % 10 < 0) = false := decide_eq_false (by omega)
      clear hm
      go_wp2
      exact ⟨⟨j + 1, by rw [HST.out]; go_num, by rw [HC.out, HA.out], by omega⟩, by
        have h1 := str_size_app HC.out HZ.out
        show 20 - ((ByteArray.extract _ _ _ ++ T).size) < 20 - T.size
        omega⟩
    · have hjl : ¬ j < len m := fun h => hx0 (HP.out.2 h)
      obtain rfl : x = 0 := by omega
      have hjm : j = len m := by omega
      have HJM := Lib.hid hjm; have HTT := Lib.hid hT; clear hjm hT
      go_wp2
      go_ret
      exact Ret.mk (by rw [HT.out, ← HTT.out, HJM.out]; rfl)
set_option maxRecDepth 100000 in
set_option maxHeartbeats 1000000 in
theorem rnumb_neg (m : Nat) (w : World) (hm : 1 ≤ m) (hx : m ≤ 9223372036854775808) : Calls Tryd.prog 28 #[.int .i64 (-(m : Int))] w (Ret (.string (NT (-(m : Int)))) w) := by
  have HT := Lib.hid (show NT (-(m : Int)) = ⟨#[45]⟩ ++ str (by8 (dg m (len m))) from by
    rw [NT_neg hm, show max 1 (len m) = len m from by have := len_pos' hm; omega, show (⟨#[45]⟩ : ByteArray) = str (by8 [45]) from rfl, cat_by8]; rfl)
  have hl : len m ≤ 19 := (len_le m 19).1 (by omega)
  generalize hn : (-(m : Int)) = n at *
  have hn1 : n ≤ -1 := by omega
  have hn2 : -9223372036854775808 ≤ n := by omega
  have HN := Lib.hid hn
  clear hn
  go_enter Tryd.func28, Tryd.ntmps28
  go_wp2
  go_loop [0, 3] (fun x s => ∃ j : Nat, x = .int .i64 (-((m / 10 ^ j : Nat) : Int)) ∧ s = .string (str (by8 (dg m j))) ∧ j ≤ len m) (fun _ s => 20 - szOf s)
  case atStart => exact ⟨0, by rw [Nat.pow_zero, Nat.div_one, HN.out], rfl, Nat.zero_le _⟩
  case round =>
    obtain ⟨j, rfl, rfl, hj⟩ := hrel
    have hz := dg_str_size m j
    have hz1 := Nat.le_of_eq hz
    have hz2 := Nat.le_of_eq hz.symm
    have hxl : m / 10 ^ j ≤ m := Nat.div_le_self _ _
    have hpos := div_pos_iff (v := m) (j := j)
    have hst := div_step m j
    have hdg := dg_step m j
    generalize m / 10 ^ j = x at *
    have hcat := cat_by8 [48 + x % 10] (dg m j)
    rw [← hdg] at hcat
    have htm : (-(x : Int)).tmod 10 = -((x % 10 : Nat) : Int) := by rw [Int.neg_tmod, Int.tmod_eq_emod_of_nonneg (by omega)]; omega
    have htd : (-(x : Int)).tdiv 10 = -((x / 10 : Nat) : Int) := by rw [Int.neg_tdiv, Int.tdiv_eq_ediv_of_nonneg (by omega)]; omega
    have HST := Lib.hid hst; have HA := Lib.hid hcat; have HZ := Lib.hid hz; have HP := Lib.hid hpos; clear hst hdg hcat hz hpos
    generalize hT : str (by8 (dg m j)) = T at *
    by_cases hx0 : 0 < x
    · have hjl := HP.out.1 hx0
      have hne : (-(x : Int) != 0) = true := ine_t (by omega)
      have hb1 : -(x : Int) < 0 := by omega
      have hb2 : -9223372036854775808 ≤ -(x : Int) := by omega
      obtain ⟨b, hbq⟩ : ∃ b : Int, -((x / 10 : Nat) : Int) = b := ⟨_, rfl⟩
      have hb3 : b ≤ 0 := by omega
      have hb4 : -922337203685477580 ≤ b := by omega
      rw [hbq] at htd
      have HBQ := Lib.hid hbq
      clear hbq
      by_cases hr : x % 10 = 0
      · rw [hr] at htm HA
        have hcut : (⟨#[48, 49, 50, 51, 52, 53, 54, 55, 56, 57]⟩ : ByteArray).extract 0 1 = str (by8 [48 + 0]) := ten_cut 0 (by omega)
        have HC := Lib.hid hcut
        clear hcut hr
        generalize -(x : Int) = a at *
        clear hm
        go_wp2
        exact ⟨⟨j + 1, by rw [HST.out, HBQ.out], by rw [HC.out, HA.out], by omega⟩, by
          have h1 := str_size_app HC.out HZ.out
          show 20 - ((ByteArray.extract _ _ _ ++ T).size) < 20 - T.size
          omega⟩
      · obtain ⟨r, hr2⟩ : ∃ r, x % 10 = r := ⟨_, rfl⟩
        rw [hr2] at htm HA hr
        have hr10 : r < 10 := by omega
        have hcut := ten_cut r hr10
        have HC := Lib.hid hcut
        clear hcut hr2
        obtain ⟨d, hdq⟩ : ∃ d : Int, -(r : Int) = d := ⟨_, rfl⟩
        have hd1 : d < 0 := by omega
        have hd2 : -9 ≤ d := by omega
        have hd3 : -d = (r : Int) := by omega
        rw [hdq] at htm
        clear hdq hr
        generalize -(x : Int) = a at *
        clear hm
        go_wp2
        exact ⟨⟨j + 1, by rw [HST.out, HBQ.out], by rw [HC.out, HA.out], by omega⟩, by
          have h1 := str_size_app HC.out HZ.out
          show 20 - ((ByteArray.extract _ _ _ ++ T).size) < 20 - T.size
          omega⟩
    · have hjl : ¬ j < len m := fun h => hx0 (HP.out.2 h)
      obtain rfl : x = 0 := by omega
      have hjm : j = len m := by omega
      have HJM := Lib.hid hjm; have HTT := Lib.hid hT; clear hjm hT htm htd
      go_wp2
      go_ret
      exact Ret.mk (by rw [HT.out, ← HTT.out, HJM.out]; rfl)
theorem rnumb_any (n : Int) (w : World) (wn : (Lit.int .i64 n).wf = true) : Calls Tryd.prog 28 #[.int .i64 n] w (Ret (.string (NT n)) w) := by
  obtain ⟨h1, h2⟩ := bounds_i64 wn
  by_cases hn : n < 0
  · obtain ⟨m, rfl⟩ : ∃ m : Nat, n = -(m : Int) := ⟨n.natAbs, by omega⟩
    exact rnumb_neg m w (by omega) (by omega)
  · obtain ⟨m, rfl⟩ := Int.eq_ofNat_of_zero_le (by omega : 0 ≤ n)
    by_cases h10 : m < 10
    · exact rnumb_small m w h10
    · exact rnumb_pos m w (by omega) (by omega)
set_option maxRecDepth 100000 in
set_option maxHeartbeats 1000000 in
theorem rfdate_any (n : Int) (y m d : Nat) (w : World) (hok : okD y m d) (hn : num y m d = n) : Calls Tryd.prog 26 #[.int .i64 n] w (Ret (.tuple #[.string (str (by8 (txt y m d))), .int .i64 0]) w) := by
  have HC := Lib.hid (rcivil_at n y m d w hok hn)
  obtain ⟨y1, y2, m1, m2, d1, d2⟩ := hok
  have d3 : d ≤ 31 := by have := dim_bd y m; omega
  have h1 := rdigits_any y 4 w (by omega) (by decide)
  have h2 := rdigits_any m 2 w (by omega) (by decide)
  have h3 := rdigits_any d 2 w (by omega) (by decide)
  rw [show max 4 (len y) = 4 from by have := (len_le y 4).1 (by omega); omega, show ((4 : Nat) : Int) = 4 from rfl] at h1
  rw [show max 2 (len m) = 2 from by have := (len_le m 2).1 (by omega); omega, show ((2 : Nat) : Int) = 2 from rfl] at h2
  rw [show max 2 (len d) = 2 from by have := (len_le d 2).1 (by omega); omega, show ((2 : Nat) : Int) = 2 from rfl] at h3
  have H1 := Lib.hid h1
  have H2 := Lib.hid h2
  have H3 := Lib.hid h3
  have HT := Lib.hid (day_cat y m d)
  have z1 := Nat.le_of_eq (dg_str_size y 4)
  have z2 := Nat.le_of_eq (dg_str_size m 2)
  have z3 := Nat.le_of_eq (dg_str_size d 2)
  generalize str (by8 (txt y m d)) = T at *
  generalize str (by8 (dg y 4)) = A at *
  generalize str (by8 (dg m 2)) = B at *
  generalize str (by8 (dg d 2)) = C at *
  clear h1 h2 h3 y1 y2 m1 m2 d1 d2 d3 hn
  go_enter Tryd.func26, Tryd.ntmps26
  go_wp2_with (first
    | (go_at_call 43; refine HC.out.mono ?_; rintro e w' ⟨rfl, rfl⟩)
    | (go_at_call 44; (with_reducible refine H1.out.mono ?_); rintro e w' ⟨rfl, rfl⟩)
    | (go_at_call 44; (with_reducible refine H2.out.mono ?_); rintro e w' ⟨rfl, rfl⟩)
    | (go_at_call 44; (with_reducible refine H3.out.mono ?_); rintro e w' ⟨rfl, rfl⟩))
  go_ret2
  exact Ret.mk (by rw [← HT.out]; rfl)
theorem okSc_cases {ty sc : Int} (h : okSc ty sc = false) : ty = 5 ∧ (sc < 0 ∨ 18 < sc) := by
  have := of_decide_eq_false h; omega
theorem okSc_cases' {ty sc : Int} (h : okSc ty sc = true) : ty ≠ 5 ∨ (ty = 5 ∧ 0 ≤ sc ∧ sc ≤ 18) := by
  have := of_decide_eq_true h; omega
set_option maxRecDepth 100000 in
set_option maxHeartbeats 4000000 in
theorem rfm_sc (nm : ByteArray) (sc : Int) (nu nul : Bool) (n : Int) (s : ByteArray) (W : World) (h : sc < 0 ∨ 18 < sc) :
    Calls Tryd.prog 10 #[(.agg #[.string nm, .int .i64 5, .int .i64 sc, .bool nu]), (.agg #[.bool nul, .int .i64 n, .string s])] W (RetB (.tuple #[.string ⟨#[]⟩, .int .i64 1]) W) := by
  rcases h with h | h
  · go_enter Tryd.func10, Tryd.ntmps10
    go_wp2
    go_ret2
    exact RetB.mk rfl (by go_grown)
  · go_enter Tryd.func10, Tryd.ntmps10
    go_wp2
    go_ret2
    exact RetB.mk rfl (by go_grown)
set_option maxRecDepth 100000 in
set_option maxHeartbeats 4000000 in
theorem rfm_bad (nm : ByteArray) (ty sc : Int) (nu nul : Bool) (n : Int) (s : ByteArray) (W : World) (h : ty ≠ 5 ∨ (ty = 5 ∧ 0 ≤ sc ∧ sc ≤ 18)) (hk : chk ty nu nul n s ≠ 0) :
    Calls Tryd.prog 10 #[(.agg #[.string nm, .int .i64 ty, .int .i64 sc, .bool nu]), (.agg #[.bool nul, .int .i64 n, .string s])] W (RetB (.tuple #[.string ⟨#[]⟩, .int .i64 (chk ty nu nul n s : Nat)]) W) := by
  have HK := fun w => Lib.hid (rchk_any nm ty sc nu nul n s w)
  have h0 : ((chk ty nu nul n s : Int) != 0) = true := ine_t (by omega)
  generalize chk ty nu nul n s = k at *
  clear hk
  rcases h with h | ⟨rfl, h1, h2⟩
  · have hf := ieq_f h
    clear h
    go_enter Tryd.func10, Tryd.ntmps10
    go_wp2_with fail
    refine (HK _).out.mono ?_
    rintro e w2 ⟨rfl, hb2⟩
    go_wp2
    go_ret2
    exact RetB.mk rfl (bel_trans (by go_grown) hb2)
  · go_enter Tryd.func10, Tryd.ntmps10
    go_wp2_with fail
    refine (HK _).out.mono ?_
    rintro e w2 ⟨rfl, hb2⟩
    go_wp2
    go_ret2
    exact RetB.mk rfl (bel_trans (by go_grown) hb2)
set_option maxRecDepth 100000 in
set_option maxHeartbeats 4000000 in
theorem rfm_nul (nm : ByteArray) (ty sc : Int) (nu : Bool) (n : Int) (s : ByteArray) (W : World) (h : ty ≠ 5 ∨ (ty = 5 ∧ 0 ≤ sc ∧ sc ≤ 18)) (hk : chk ty nu true n s = 0) :
    Calls Tryd.prog 10 #[(.agg #[.string nm, .int .i64 ty, .int .i64 sc, .bool nu]), (.agg #[.bool true, .int .i64 n, .string s])] W (RetB (.tuple #[.string ⟨#[110, 117, 108, 108]⟩, .int .i64 0]) W) := by
  have HK := fun w => Lib.hid (rchk_any nm ty sc nu true n s w)
  rw [hk] at HK
  clear hk
  have hV4 := Var4.new W (.string nm) (.int .i64 ty) (.int .i64 sc) (.bool nu) 26
  have hV3 := Var3.new (W.alloc (.cells #[.string nm, .int .i64 ty, .int .i64 sc, .bool nu] 26)) (.bool true) (.int .i64 n) (.string s) 28
  rw [show (W.alloc (.cells #[.string nm, .int .i64 ty, .int .i64 sc, .bool nu] 26)).heap.size = W.heap.size + 1 from by simp] at hV3
  clear hV4
  rcases h with h | ⟨rfl, h1, h2⟩
  · have hf := ieq_f h
    clear h
    go_enter Tryd.func10, Tryd.ntmps10
    go_wp2_with fail
    refine (HK _).out.mono ?_
    rintro e w2 ⟨rfl, hb2⟩
    obtain ⟨m0, m1, m2, f0, f1, f2⟩ := hV3.step hb2
    go_wp2
    go_ret2
    exact RetB.mk rfl (bel_trans (by go_grown) hb2)
  · go_enter Tryd.func10, Tryd.ntmps10
    go_wp2_with fail
    refine (HK _).out.mono ?_
    rintro e w2 ⟨rfl, hb2⟩
    obtain ⟨m0, m1, m2, f0, f1, f2⟩ := hV3.step hb2
    go_wp2
    go_ret2
    exact RetB.mk rfl (bel_trans (by go_grown) hb2)
set_option maxRecDepth 100000 in
set_option maxHeartbeats 8000000 in
theorem rfm_val (nm : ByteArray) (ty sc : Int) (nu : Bool) (n : Int) (s : ByteArray) (W : World) (wn : (Lit.int .i64 n).wf = true) (h : ty ≠ 5 ∨ (ty = 5 ∧ 0 ≤ sc ∧ sc ≤ 18)) (hk : chk ty nu false n s = 0) :
    Calls Tryd.prog 10 #[(.agg #[.string nm, .int .i64 ty, .int .i64 sc, .bool nu]), (.agg #[.bool false, .int .i64 n, .string s])] W (RetB (.tuple #[.string (FT ty sc n s), .int .i64 0]) W) := by
  have HK := fun w => Lib.hid (rchk_any nm ty sc nu false n s w)
  rw [hk] at HK
  obtain ⟨hT, h3, _, hp⟩ := chk_ok hk
  have h5 := okT_five hT
  clear hk hT
  have hV4 := Var4.new W (.string nm) (.int .i64 ty) (.int .i64 sc) (.bool nu) 26
  have hV3 := Var3.new (W.alloc (.cells #[.string nm, .int .i64 ty, .int .i64 sc, .bool nu] 26)) (.bool false) (.int .i64 n) (.string s) 28
  replace hV4 := hV4.step ((Below.refl _ _).alloc (Nat.le_refl _) (.cells #[.bool false, .int .i64 n, .string s] 28))
  rw [show (W.alloc (.cells #[.string nm, .int .i64 ty, .int .i64 sc, .bool nu] 26)).heap.size = W.heap.size + 1 from by simp] at hV3
  have hB : Below W.heap.size W ((W.alloc (.cells #[.string nm, .int .i64 ty, .int .i64 sc, .bool nu] 26)).alloc (.cells #[.bool false, .int .i64 n, .string s] 28)) := by go_grown
  have hV := fun (w : World) (hb : Below ((W.alloc (.cells #[.string nm, .int .i64 ty, .int .i64 sc, .bool nu] 26)).alloc (.cells #[.bool false, .int .i64 n, .string s] 28)).heap.size ((W.alloc (.cells #[.string nm, .int .i64 ty, .int .i64 sc, .bool nu] 26)).alloc (.cells #[.bool false, .int .i64 n, .string s] 28)) w) =>
    Lib.hid (And.intro (bel_trans hB hb) (And.intro (hV4.step hb) (hV3.step hb)))
  clear hV4 hV3 hB
  rcases h5 with rfl | rfl | rfl | rfl | rfl
  · have HF := fun w => Lib.hid (rnumb_any n w wn)
    rw [show FT 1 sc n s = NT n from rfl]
    generalize NT n = T at *
    clear h3 h hp wn
    go_enter Tryd.func10, Tryd.ntmps10
    go_wp2_with fail
    refine (HK _).out.mono ?_
    rintro e w2 ⟨rfl, hb2⟩
    obtain ⟨hB2, ⟨k0, k1, k2, k3⟩, m0, m1, m2, f0, f1, f2⟩ := (hV w2 hb2).out
    clear hV hb2
    go_wp2_with (go_at_call 28; refine (HF _).out.mono ?_; rintro e w3 ⟨rfl, rfl⟩)
    go_ret2
    exact RetB.mk rfl hB2
  · have hb : n = 0 ∨ n = 1 := of_decide_eq_true hp
    clear h3 h hp wn
    rcases hb with rfl | rfl
    all_goals
      go_enter Tryd.func10, Tryd.ntmps10
      go_wp2_with fail
      refine (HK _).out.mono ?_
      rintro e w2 ⟨rfl, hb2⟩
      obtain ⟨hB2, ⟨k0, k1, k2, k3⟩, m0, m1, m2, f0, f1, f2⟩ := (hV w2 hb2).out
      clear hV hb2
      go_wp2
      go_ret2
      exact RetB.mk rfl hB2
  · have hs : s.size ≤ 64 := of_decide_eq_true hp
    have HR := Lib.hid (show FT 3 sc n s = str (34 :: hexs s s.size) ++ ⟨#[34]⟩ from by
      show str (34 :: (hexs s s.size ++ [34])) = _
      rw [show (⟨#[34]⟩ : ByteArray) = str [34] from rfl, str_append]; rfl)
    have HB := Lib.hid (get_bN s)
    generalize FT 3 sc n s = R at *
    clear h3 h hp wn
    go_enter Tryd.func10, Tryd.ntmps10
    go_wp2_with fail
    refine (HK _).out.mono ?_
    rintro e w2 ⟨rfl, hb2⟩
    have hV2 := fun (w : World) (hb : Below w2.heap.size w2 w) => hV w (bel_trans hb2 hb)
    obtain ⟨hB2, ⟨k0, k1, k2, k3⟩, m0, m1, m2, f0, f1, f2⟩ := (hV w2 hb2).out
    clear hV hb2 HK
    go_wp2
    clear hB2 k0 k1 k2 k3 m0 m1 m2 f0 f1 f2
    go_loopw [7, 8] (fun t i wr => ∃ j : Nat, t = .string (str (34 :: hexs s j)) ∧ i = .int .i64 (j : Int) ∧ j ≤ s.size ∧ Below w2.heap.size w2 wr) (fun _ i _ => s.size - (intOf i).toNat)
    case atStart => exact ⟨0, rfl, rfl, Nat.zero_le _, Below.refl _ _⟩
    case round =>
      obtain ⟨j, rfl, rfl, hj, hbel⟩ := hrel
      obtain ⟨hB2, ⟨k0, k1, k2, k3⟩, m0, m1, m2, f0, f1, f2⟩ := (hV2 wr hbel).out
      have hTz : (str (34 :: hexs s j)).size ≤ 129 := by rw [str_size, List.length_cons, hexs_len]; omega
      by_cases hlt : j < s.size
      · have hgj := HB.out j
        have hcl := bN_lt s j
        have hbs : str (34 :: hexs s (j + 1)) = str (34 :: hexs s j) ++ (str [UInt8.ofNat (hc (bN s j / 16))] ++ str [UInt8.ofNat (hc (bN s j % 16))]) := by rw [str_append, str_append]; rfl
        have hcp := hex_cut (bN s j / 16) (by omega)
        have hcq := hex_cut (bN s j % 16) (by omega)
        generalize hP : str [UInt8.ofNat (hc (bN s j / 16))] = P at *
        generalize hQ : str [UInt8.ofNat (hc (bN s j % 16))] = Q at *
        have hPz : P.size ≤ 1 := by rw [← hP]; exact Nat.le_refl _
        have hQz : Q.size ≤ 1 := by rw [← hQ]; exact Nat.le_refl _
        clear hP hQ
        generalize bN s j = c at *
        obtain ⟨p, hp⟩ : ∃ p, c / 16 = p := ⟨_, rfl⟩
        obtain ⟨q, hq⟩ : ∃ q, c % 16 = q := ⟨_, rfl⟩
        rw [hp] at hcp
        rw [hq] at hcq
        have hp16 : p < 16 := by omega
        have hq16 : q < 16 := by omega
        have hsp : (c : Int) / 16 = (p : Int) := by omega
        have hsq : (c : Int) % 16 = (q : Int) := by omega
        have HBS := Lib.hid hbs
        have HBEL := Lib.hid hbel
        clear hbs hp hq hB2 hbel
        generalize hTT : str (34 :: hexs s j) = T at *
        clear hTT
        go_wp2_with fail
        go_quiet (fail)
        go_wp2
        exact ⟨⟨j + 1, by rw [HBS.out], by go_num, hlt, Go.below_drewN HBEL.out _⟩, by simp [intOf] <;> omega⟩
      · obtain rfl : j = s.size := by omega
        generalize str (34 :: hexs s s.size) = T at *
        go_wp2
        go_ret2
        exact RetB.mk (by rw [HR.out]; rfl) hB2
  · have hs : -719162 ≤ n ∧ n ≤ 2932896 := of_decide_eq_true hp
    obtain ⟨y, m, d, hok, hn, hT⟩ := DX_day hs.1 hs.2
    have HF := fun w => Lib.hid (rfdate_any n y m d w hok hn)
    rw [show FT 4 sc n s = DX n from rfl, hT]
    generalize str (by8 (txt y m d)) = T at *
    clear h3 h hp wn hs hok hn hT
    go_enter Tryd.func10, Tryd.ntmps10
    go_wp2_with fail
    refine (HK _).out.mono ?_
    rintro e w2 ⟨rfl, hb2⟩
    obtain ⟨hB2, ⟨k0, k1, k2, k3⟩, m0, m1, m2, f0, f1, f2⟩ := (hV w2 hb2).out
    clear hV hb2
    go_wp2_with (go_at_call 26; refine (HF _).out.mono ?_; rintro e w3 ⟨rfl, rfl⟩)
    go_ret2
    exact RetB.mk rfl hB2
  · have hs : -999999999999999999 ≤ n ∧ n ≤ 999999999999999999 := of_decide_eq_true hp
    have hsc : 0 ≤ sc ∧ sc ≤ 18 := by rcases h with h | h; exact absurd rfl h; exact h.2
    have hok : okN n ∧ okS sc := ⟨hs, hsc⟩
    have HF := fun w => Lib.hid (rformat_any n sc w)
    rw [FC_in hok] at HF
    rw [show FT 5 sc n s = FN n sc from rfl]
    generalize FN n sc = T at *
    obtain ⟨hs1, hs2⟩ := hsc
    clear h3 h hp wn hs hok
    go_enter Tryd.func10, Tryd.ntmps10
    go_wp2_with fail
    refine (HK _).out.mono ?_
    rintro e w2 ⟨rfl, hb2⟩
    obtain ⟨hB2, ⟨k0, k1, k2, k3⟩, m0, m1, m2, f0, f1, f2⟩ := (hV w2 hb2).out
    clear hV hb2
    go_wp2_with (go_at_call 27; refine (HF _).out.mono ?_; rintro e w3 ⟨rfl, rfl⟩)
    go_ret2
    exact RetB.mk rfl hB2
theorem rFormat_any (nm : ByteArray) (ty sc : Int) (nu nul : Bool) (n : Int) (s : ByteArray) (W : World) (wn : (Lit.int .i64 n).wf = true) :
    Calls Tryd.prog 10 #[(.agg #[.string nm, .int .i64 ty, .int .i64 sc, .bool nu]), (.agg #[.bool nul, .int .i64 n, .string s])] W (RetB (FR ty sc nu nul n s) W) := by
  cases hS : okSc ty sc with
  | false =>
    obtain ⟨rfl, h⟩ := okSc_cases hS
    rw [FR_sc hS]
    exact rfm_sc nm sc nu nul n s W h
  | true =>
    by_cases hk : chk ty nu nul n s = 0
    · cases nul with
      | true => rw [FR_nul hS hk]; exact rfm_nul nm ty sc nu n s W (okSc_cases' hS) hk
      | false => rw [FR_val hS hk]; exact rfm_val nm ty sc nu n s W wn (okSc_cases' hS) hk
    · rw [FR_bad hS hk]; exact rfm_bad nm ty sc nu nul n s W (okSc_cases' hS) hk
end Go.Proofs.YtidlemedkjkmdaaDoor
