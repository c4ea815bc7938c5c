/- The walks over package varint: what Put, Size, Get, Zig and Zag return. -/
import Derived.Test.YthohmngckpjlbaaVarMath
namespace Go.Proofs.Ythohmngckpjlbaa
open Go.RowKit Go.VB Go.VarM

theorem Try.infoU8 : (Try.prog.info? 5).map (fun i => (i.zero, i.size, i.bytes)) = some (some (.int .u8 0), 1, 1) := by kernel_rfl

set_option maxRecDepth 100000 in
set_option maxHeartbeats 400000 in
theorem vput_any (n : Nat) (w : World) (h : n < 18446744073709551616) :
    Calls Try.prog 58 #[.int .u64 (n : Int)] w (RetB (.string (str (putL n))) w) := by
  have hmk : ∀ w, (Instr.makeSlice 76 (.int .i64 0) (.int .i64 10)).run Try.prog w = .ok (.slice (some ⟨w.heap.size, 0, none⟩) 0 10) (w.alloc (.cells (Array.replicate 10 (.int .u8 0)) 5)) := fun _ => by kernel_rfl
  have h10 := putL_len10 h
  go_enter Try.func58, Try.ntmps58
  go_wp2
  go_loopw [0, 3] (fun v enc wr => ∃ (x : Nat) (done : List UInt8), v = .int .u64 x ∧ x < 18446744073709551616 ∧ OwnB 5 wr w.heap.size enc done ∧ done ++ putL x = putL n ∧ Below w.heap.size w wr)
    (fun v _ _ => (intOf v).toNat)
  case atStart => exact ⟨n, [], rfl, h, World.ownsRow_made w _ 10 (Nat.le_refl _) (by decide) (by simp), rfl, (Below.refl _ _).alloc (Nat.le_refl _) _⟩
  case round =>
    obtain ⟨x, done, rfl, hx, hown, hput, hbel⟩ := hrel
    have hle : done.length ≤ 10 := by have := congrArg List.length hput; rw [List.length_append] at this; omega
    have hsz := hbel.size
    clear hmk
    by_cases hlt : x < 128
    · go_wp2_with (at_builtin; refine wpl_app1 rfl _ _ 76 rfl w.heap.size 5 Try.underlying76 Try.infoU8 _ done rfl (hown.alloc _) wr.heap.size 1 _ rfl (cell_new1 _ _ _) (by omega) (by omega) (by omega) (by simp; omega) ?_)
      intro v' w' hown' hb'
      have hcv := run_string_of_own (P := Try.prog) 76 9 5 Try.underlying76 Try.underlying5 Try.underlying9 hown'
      go_wp2
      go_ret
      refine RetB.mk ?_ (hbel.trans (((Below.refl _ _).alloc (by omega) _).trans hb'))
      show Value.string _ = _
      rw [← hput, putL_lt hlt]
    · have e1 := and127 hx
      have e2 := or128 x
      go_wp2_with (at_builtin; refine wpl_app1 rfl _ _ 76 rfl w.heap.size 5 Try.underlying76 Try.infoU8 _ done rfl (hown.alloc _) wr.heap.size 1 _ rfl (cell_new1 _ _ _) (by omega) (by omega) (by omega) (by simp; omega) ?_)
      intro v' w' hown' hb'
      go_wp2
      go_roundw
      case rel =>
        refine ⟨x / 128, _, by go_num, by omega, hown', ?_, hbel.trans (((Below.refl _ _).alloc (by omega) _).trans hb')⟩
        rw [← hput, putL_ge hlt, List.append_assoc]
        have : (((x : Int) % 128 + 128).toNat) = x % 128 + 128 := by omega
        rw [this]; rfl
      case measure => simp [intOf] <;> omega

set_option maxRecDepth 100000 in
set_option maxHeartbeats 400000 in
theorem rput_any (n : Nat) (w : World) (h : n < 18446744073709551616) :
    Calls Try.prog 44 #[.int .u64 (n : Int)] w (RetB (.string (str (putL n))) w) := by
  have h10 := putL_len10 h
  have hcs := run_string1 (P := Try.prog) 76 9 5 Try.underlying76 Try.underlying5 Try.underlying9
  go_enter Try.func44, Try.ntmps44
  go_wp2
  go_loopw [0, 3] (fun v s wr => ∃ (x : Nat) (done : List UInt8), v = .int .u64 x ∧ x < 18446744073709551616 ∧ s = .string (str done) ∧ done ++ putL x = putL n ∧ Below w.heap.size w wr)
    (fun v _ _ => (intOf v).toNat)
  case atStart => exact ⟨n, [], rfl, h, rfl, rfl, Below.refl _ _⟩
  case round =>
    obtain ⟨x, done, rfl, hx, rfl, hput, hbel⟩ := hrel
    have hle : done.length ≤ 10 := by have := congrArg List.length hput; rw [List.length_append] at this; omega
    have hsz := hbel.size
    have hadd := run_add_str (P := Try.prog) done 10 hle (by omega)
    by_cases hlt : x < 128
    · go_wp2
      go_ret
      refine RetB.mk ?_ (hbel.alloc (by omega) _)
      show Value.string _ = _
      rw [← hput, putL_lt hlt]
    · have e2 := or128' x
      go_wp2
      go_roundw
      case rel =>
        refine ⟨x / 128, _, by go_num, by omega, rfl, ?_, hbel.alloc (by omega) _⟩
        rw [← hput, putL_ge hlt, List.append_assoc]
        simp
      case measure => simp [intOf] <;> omega


set_option maxRecDepth 100000 in
set_option maxHeartbeats 400000 in
theorem vesize_any (s : ByteArray) (w : World) (hs : s.size ≤ maxLen) :
    Calls Try.prog 64 #[.string s] w (Ret (.tuple #[.int .i64 ((esL s.data.toList).1 : Nat), .int .i64 ((esL s.data.toList).2 : Nat)]) w) := by
  unfold maxLen at hs
  have hb := get_bN s
  have hl := size_list s
  have HL := Lib.hid hl; clear hl
  by_cases h10 : s.size ≤ 10
  all_goals
    go_enter Try.func64, Try.ntmps64
    go_wp2
    go_loop [8] (fun v => ∃ (k : Nat), v = .int .i64 k ∧ k ≤ 10 ∧ k ≤ s.size ∧ ∀ j, j < k → 128 ≤ bN s j) (fun v => 10 - (intOf v).toNat)
    case atStart => exact ⟨0, rfl, by omega, by omega, fun j hj => by omega⟩
    case round =>
      obtain ⟨k, rfl, hk, hks, hall⟩ := hrel
      have HA := Lib.hid hall; clear hall
      by_cases hlt : k < s.size ∧ k < 10
      · obtain ⟨hlt, hlt10⟩ := hlt
        have hbl := bN_lt s k
        by_cases hbk : bN s k < 128
        · have e1 := and128_lo hbk
          go_wp2
          go_ret2
          refine Ret.mk ?_
          have := sizeL_hit 10 s.data.toList k hlt10 (by rw [HL.out]; exact hlt) HA.out hbk
          rw [esL_some this] <;> rfl
        · have e1 := and128_hi (Nat.le_of_not_lt hbk) hbl
          go_wp2
          go_round
          case rel =>
            refine ⟨k + 1, by go_num, by omega, by omega, fun j hj => ?_⟩
            by_cases hjk : j = k
            · subst hjk; omega
            · exact HA.out j (by omega)
          case measure => simp [intOf] <;> omega
      · have hn := sizeL_none 10 s.data.toList (fun j h1 h2 => HA.out j (by rw [HL.out] at h2; omega))
        have HN := Lib.hid hn; clear hn
        by_cases hl10 : s.size < 10
        · go_wp2
          all_goals
            go_ret2
            refine Ret.mk ?_
            rw [esL_short HN.out (by rw [HL.out]; exact hl10)] <;> rfl
        · go_wp2
          go_ret2
          refine Ret.mk ?_
          rw [esL_over HN.out (by rw [HL.out]; exact hl10)] <;> rfl

set_option maxRecDepth 100000 in
set_option maxHeartbeats 400000 in
theorem vjoin_any (s : ByteArray) (w : World) (hs : s.size ≤ 10) (hj : joinL s.data.toList < 18446744073709551616) :
    Calls Try.prog 65 #[.string s] w (Ret (.int .u64 (joinL s.data.toList : Nat)) w) := by
  have hb := get_bN s
  have HL := Lib.hid (size_list s)
  have HJ := Lib.hid hj; clear hj
  go_enter Try.func65, Try.ntmps65
  go_wp2
  go_loop [3, 4] (fun v i => ∃ (k : Nat), k ≤ s.size ∧ i = .int .i64 ((k : Int) - 1) ∧ v = .int .u64 (joinL (s.data.toList.drop k) : Nat)) (fun _ i => (intOf i + 1).toNat)
  case atStart => exact ⟨s.size, by omega, rfl, by rw [List.drop_of_length_le (by rw [HL.out]; omega)]; rfl⟩
  case round =>
    obtain ⟨k, hk, rfl, rfl⟩ := hrel
    cases k with
    | zero =>
      go_wp2
      go_ret
      exact Ret.mk (by rfl)
    | succ k =>
      have hbl := bN_lt s k
      have e1 := and127b hbl
      obtain ⟨hj1, hj2⟩ := join_step s k hk HJ.out
      have HJ2 := Lib.hid hj2; clear hj2
      generalize hJ : joinL (s.data.toList.drop (k + 1)) = J at hj1 HJ2 ⊢
      have HJ3 := Lib.hid hJ; clear hJ
      have e2 := or_join J (bN s k) hj1
      go_wp2
      go_round
      case rel =>
        refine ⟨k, by omega, ?_, ?_⟩
        · first | rfl | go_num
        · rw [HJ2.out]
          first | rfl | go_num
      case measure => simp [intOf] <;> omega


end Go.Proofs.Ythohmngckpjlbaa
