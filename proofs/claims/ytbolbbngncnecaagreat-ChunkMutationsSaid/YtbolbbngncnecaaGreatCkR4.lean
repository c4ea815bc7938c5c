/- The walks over the reference's chunks, read: Word, sound, Codec. -/
import Derived.Test.YtbolbbngncnecaaGreatCkK
namespace Go.CK
open Go.RowKit Go.VB Go.VarM Go.BP Go.VS Go.VL Go.Proofs.YtbolbbngncnecaaGreat
theorem or_add32 {x y k : Nat} (hx : x < 2 ^ k) (hy : y % 2 ^ k = 0) (h : x + y < 4294967296) : bits .or .u32 (x : Int) (y : Int) = ((x + y : Nat) : Int) := by
  rw [u32_or_nat x y (by omega) (by omega), Nat.or_comm, nat_join k y x hy hx, Nat.add_comm]
theorem or_word (s : ByteArray) (i : Nat) : bits .or .u32 (bits .or .u32 (bits .or .u32 (bN s i : Int) ((bN s (i + 1) : Int) * 256)) ((bN s (i + 2) : Int) * 65536)) ((bN s (i + 3) : Int) * 16777216) = ((wordN s i : Nat) : Int) := by
  have l0 := bN_lt s i; have l1 := bN_lt s (i + 1); have l2 := bN_lt s (i + 2); have l3 := bN_lt s (i + 3)
  unfold wordN
  generalize bN s i = a at *
  generalize bN s (i + 1) = b at *
  generalize bN s (i + 2) = c at *
  generalize bN s (i + 3) = d at *
  rw [show (b : Int) * 256 = ((b * 256 : Nat) : Int) from (Int.natCast_mul b 256).symm, or_add32 (k := 8) (by omega) (by omega) (by omega),
    show (c : Int) * 65536 = ((c * 65536 : Nat) : Int) from (Int.natCast_mul c 65536).symm, or_add32 (k := 16) (by omega) (by omega) (by omega),
    show (d : Int) * 16777216 = ((d * 16777216 : Nat) : Int) from (Int.natCast_mul d 16777216).symm, or_add32 (k := 24) (by omega) (by omega) (by omega)]
  congr 1
  omega
theorem word_facts {z i : Nat} (zs : z ≤ 140737488351232) (hi : i + 4 ≤ z) : (i : Int) < (z : Int) ∧ (i : Int) + 1 < (z : Int) ∧ (i : Int) + 2 < (z : Int) ∧ (i : Int) + 3 < (z : Int) ∧ i < z ∧ i + 1 < z ∧ i + 2 < z ∧ i + 3 < z ∧
    IntKind.i64.wrap ((i : Int) + 1) = (i : Int) + 1 ∧ IntKind.i64.wrap ((i : Int) + 2) = (i : Int) + 2 ∧ IntKind.i64.wrap ((i : Int) + 3) = (i : Int) + 3 :=
  ⟨by omega, by omega, by omega, by omega, by omega, by omega, by omega, by omega, IntWalk.i64_in _ ⟨by omega, by omega⟩, IntWalk.i64_in _ ⟨by omega, by omega⟩, IntWalk.i64_in _ ⟨by omega, by omega⟩⟩
theorem codC_small {s : ByteArray} (hs : soundN s = 0) : codC s = if bN s 0 < 1 ∨ 4 < bN s 0 then ((0 : Int), 2) else (((bN s 0 : Nat) : Int), 0) := by unfold codC; rw [if_neg (by simp [hs])]
theorem codC_bad {s : ByteArray} (hs : soundN s ≠ 0) : codC s = (0, soundN s) := by unfold codC; rw [if_pos hs]
/-- The numbers of a text in a chunk. -/
theorem pt_facts {z a b : Nat} (zs : z ≤ 140737488351232) (hb : b ≤ z) : wrap64 ((z : Int) - (b : Int)) = (z : Int) - (b : Int) ∧ IntKind.u64.wrap ((z : Int) - (b : Int)) = (z : Int) - (b : Int) ∧
    (z < b + a → decide ((z : Int) - (b : Int) < (a : Int)) = true) ∧ (b + a ≤ z → decide ((z : Int) - (b : Int) < (a : Int)) = false ∧ wrap64 (a : Int) = (a : Int) ∧ wrap64 ((b : Int) + (a : Int)) = ((b + a : Nat) : Int) ∧ (b : Int) ≤ ((b + a : Nat) : Int) ∧ ((b + a : Nat) : Int) ≤ (z : Int)) :=
  ⟨by unfold wrap64; omega, by rw [IntKind.wrap_u64]; omega, fun h => decide_eq_true (by omega), fun h => ⟨decide_eq_false (by omega), by unfold wrap64; omega, by unfold wrap64; omega, by omega, by omega⟩⟩
end Go.CK
namespace Go.Proofs.YtbolbbngncnecaaGreat
open Go.RowKit Go.VB Go.VarM Go.BP Go.RL Go.VS Go.VL Go.DI Go.CK Go.NU
set_option maxRecDepth 100000 in
set_option maxHeartbeats 400000 in
theorem word_any (s : ByteArray) (i : Nat) (W : World) (zs : s.size ≤ 140737488351232) (hi : i + 4 ≤ s.size) : Calls Tryz.prog 62 #[.string s, .int .i64 (i : Int)] W (RetB (.int .u32 (wordN s i : Nat)) W) := by
  have hg := get_bN s
  have l0 := bN_lt s i; have l1 := bN_lt s (i + 1); have l2 := bN_lt s (i + 2); have l3 := bN_lt s (i + 3)
  obtain ⟨q0, q1, q2, q3, n0, n1, n2, n3, w1, w2, w3⟩ := word_facts zs hi
  clear hi
  have HO := Lib.hid (or_word s i)
  go_enter Tryz.func62, Tryz.ntmps62
  go_wp2_with fail
  go_region
  go_wp2
  go_ret
  exact RetB.mk (congrArg (Value.int .u32) HO.out) (Below.refl _ _).drew
set_option maxRecDepth 100000 in
set_option maxHeartbeats 400000 in
theorem sound_any (s : ByteArray) (W : World) (zs : s.size ≤ 140737488351232) : Calls Tryz.prog 45 #[.string s] W (RetB (.int .i64 (soundN s : Nat)) W) := by
  by_cases h5 : s.size < 5
  · rw [soundN_short h5]
    have hd : decide ((s.size : Int) < 5) = true := decide_eq_true (by omega)
    have hd2 : decide (s.size < 5) = true := decide_eq_true (by omega)
    clear h5
    go_enter Tryz.func45, Tryz.ntmps45
    go_wp2
    go_ret
    exact RetB.mk rfl (Below.refl _ _)
  · have hd : decide ((s.size : Int) < 5) = false := decide_eq_false (by omega)
    have hd2 : decide (s.size < 5) = false := decide_eq_false (by omega)
    have h4 : (4 : Int) ≤ (s.size : Int) := by omega
    have h4' : (s.size : Int) - 4 ≤ (s.size : Int) := by omega
    have hw : wrap64 ((s.size : Int) - 4) = (s.size : Int) - 4 := by unfold wrap64; omega
    have hw2 : IntKind.i64.wrap ((s.size : Int) - 4) = (s.size : Int) - 4 := IntWalk.i64_in _ ⟨by omega, by omega⟩
    have hn4 : ((s.size : Int) - 4).toNat = s.size - 4 := by omega
    have HW := fun w => Lib.hid (show Calls Tryz.prog 62 #[.string s, .int .i64 ((s.size : Int) - 4)] w (RetB (.int .u32 (wordN s (s.size - 4) : Nat)) w) from by
      rw [show ((s.size : Int) - 4) = ((s.size - 4 : Nat) : Int) from by omega]; exact word_any s (s.size - 4) w zs (by omega))
    have HC := fun w => Lib.hid (crcref_any (s.extract 0 (s.size - 4)) w (by rw [ByteArray.size_extract]; omega))
    have HB := Lib.hid (soundN_bad (s := s) (by omega))
    have HK := Lib.hid (soundN_ok (s := s) (by omega))
    generalize wordN s (s.size - 4) = x at *
    generalize crcL (s.extract 0 (s.size - 4)).data.toList = y at *
    clear h5
    by_cases he : x = y
    · rw [HK.out he]
      have hne : ((x : Int) != (y : Int)) = false := by rw [he]; simp
      clear he
      go_enter Tryz.func45, Tryz.ntmps45
      go_wp2_with fail
      go_region_with (first
        | (go_at_call 62; (with_reducible refine (HW _).out.mono ?_); rintro e w3 ⟨rfl, hb3⟩)
        | (go_at_call 19; (with_reducible refine (HC _).out.mono ?_); rintro e w4 ⟨rfl, hb4⟩))
      all_goals
        go_wp2
        go_ret
        exact RetB.mk rfl (bel_trans (bel_trans (by go_grown) hb3) hb4)
    · rw [HB.out he]
      have hne : ((x : Int) != (y : Int)) = true := ine_t (by omega)
      clear he
      go_enter Tryz.func45, Tryz.ntmps45
      go_wp2_with fail
      go_region_with (first
        | (go_at_call 62; (with_reducible refine (HW _).out.mono ?_); rintro e w3 ⟨rfl, hb3⟩)
        | (go_at_call 19; (with_reducible refine (HC _).out.mono ?_); rintro e w4 ⟨rfl, hb4⟩))
      all_goals
        go_wp2
        go_ret
        exact RetB.mk rfl (bel_trans (bel_trans (by go_grown) hb3) hb4)
set_option maxRecDepth 100000 in
set_option maxHeartbeats 400000 in
theorem rcodec_any (s : ByteArray) (W : World) (zs : s.size ≤ 140737488351232) : Calls Tryz.prog 26 #[.string s] W (RetB (.tuple #[.int .i64 (codC s).1, .int .i64 ((codC s).2 : Nat)]) W) := by
  have HC := fun w => Lib.hid (sound_any s w zs)
  by_cases hs : soundN s = 0
  · have h5 : 5 ≤ s.size := Nat.le_of_not_lt fun h => by rw [soundN_short h] at hs; cases hs
    rw [hs] at HC
    rw [codC_small hs]
    have hb0 := get_bN s
    have hbl := bN_lt s 0
    have hlt : (0 : Int) < (s.size : Int) := by omega
    have hlt2 : 0 < s.size := by omega
    obtain ⟨x, hx⟩ : ∃ x, bN s 0 = x := ⟨_, rfl⟩
    rw [hx] at hbl ⊢
    have hw : wrap64 (x : Int) = (x : Int) := by unfold wrap64; omega
    clear hs h5
    by_cases h1 : x < 1
    · rw [if_pos (.inl h1)]
      have d1 : decide ((x : Int) < 1) = true := decide_eq_true (by omega)
      have d1n : decide (x < 1) = true := decide_eq_true h1
      clear h1
      go_enter Tryz.func26, Tryz.ntmps26
      go_wp2_with fail
      (with_reducible refine (HC _).out.mono ?_); rintro e w1 ⟨rfl, hb1⟩
      go_wp2
      go_ret2
      exact RetB.mk rfl hb1
    · have d1 : decide ((x : Int) < 1) = false := decide_eq_false (by omega)
      have d1n : decide (x < 1) = false := decide_eq_false h1
      by_cases h4 : 4 < x
      · rw [if_pos (.inr h4)]
        have d2 : decide ((4 : Int) < (x : Int)) = true := decide_eq_true (by omega)
        have d2n : decide (4 < x) = true := decide_eq_true h4
        clear h1 h4
        go_enter Tryz.func26, Tryz.ntmps26
        go_wp2_with fail
        (with_reducible refine (HC _).out.mono ?_); rintro e w1 ⟨rfl, hb1⟩
        go_wp2
        go_ret2
        exact RetB.mk rfl hb1
      · rw [if_neg (by omega)]
        have d2 : decide ((4 : Int) < (x : Int)) = false := decide_eq_false (by omega)
        have d2n : decide (4 < x) = false := decide_eq_false h4
        clear h1 h4
        go_enter Tryz.func26, Tryz.ntmps26
        go_wp2_with fail
        (with_reducible refine (HC _).out.mono ?_); rintro e w1 ⟨rfl, hb1⟩
        go_wp2
        go_ret2
        exact RetB.mk rfl hb1
  · rw [codC_bad hs]
    have hd := chkE_ne hs
    generalize soundN s = E at *
    clear hs
    go_enter Tryz.func26, Tryz.ntmps26
    go_wp2_with fail
    (with_reducible refine (HC _).out.mono ?_); rintro e w1 ⟨rfl, hb1⟩
    go_wp2
    go_ret2
    exact RetB.mk rfl hb1
end Go.Proofs.YtbolbbngncnecaaGreat
