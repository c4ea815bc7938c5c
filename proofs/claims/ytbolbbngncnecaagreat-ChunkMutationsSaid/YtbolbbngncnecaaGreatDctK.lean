/- The statements' own makers: lists of short texts; lists compared; the reference's DecodeDict on all arguments; the statements' example. -/
import Derived.Test.YtbolbbngncnecaaGreatGS
import Derived.Test.YtbolbbngncnecaaGreatGE
namespace Go.DI
open Go.RowKit Go.VB
/-- A list of the call's own, of at most 120 texts of at most 3 bytes. -/
def ListP (e : TypeId) (w : World) : Ending → World → Prop := fun en w' => ∃ v l, en = .returned v ∧ OwnV Value.string e w' w.heap.size v l ∧ l.length ≤ 120 ∧ (∀ x ∈ l, x.size ≤ 3) ∧ Below w.heap.size w w'
theorem ListP.mk {e : TypeId} {w w' : World} {x v : Value} {l : List ByteArray} (hx : x = v) (ho : OwnV Value.string e w' w.heap.size v l) (hl : l.length ≤ 120) (hi : ∀ x ∈ l, x.size ≤ 3) (hb : Below w.heap.size w w') : ListP e w (.returned x) w' := ⟨v, l, by rw [hx], ho, hl, hi, hb⟩
end Go.DI
namespace Go.Proofs.YtbolbbngncnecaaGreat
open Go.RowKit Go.VB Go.VarM Go.BP Go.RL Go.DI Go.KS
section
variable (s : ByteArray) (hs : s.size ≤ 140737488351232)
include hs
set_option maxRecDepth 100000 in
set_option maxHeartbeats 1000000 in
theorem rdictdec_any (n : Int) (w : World) :
    Calls Tryz.prog 95 #[.string s, .int .i64 n] w (RetVE Value.string 9 (decD s n).1 (decD s n).2 w) := by
  have hmx : s.size ≤ maxLen := by unfold maxLen; omega
  have h1 := fun w => rsz_any n w
  by_cases hr : n < 0 ∨ 4096 < n
  · rw [decD_out hr]
    rw [decide_eq_false (by omega)] at h1
    have HSZ := fun w => Lib.hid (h1 w); clear h1
    go_enter Tryz.func95, Tryz.ntmps95
    go_wp2_with (go_at_call 92; (with_reducible refine (HSZ _).out.mono ?_); rintro e w' ⟨rfl, rfl⟩)
    go_ret2
    exact RetVE.mk rfl (OwnV.nil _ _ _ _) (Below.refl _ _)
  obtain ⟨n, rfl⟩ := Int.eq_ofNat_of_zero_le (show 0 ≤ n by omega)
  have hn : n ≤ 4096 := by omega
  rw [decide_eq_true (by omega)] at h1
  have HSZ := fun w => Lib.hid (h1 w); clear h1
  clear hr
  obtain ⟨a, b, c, hg⟩ : ∃ a b c, getR s 0 = (a, b, c) := ⟨_, _, _, rfl⟩
  by_cases hc : c = 0
  · subst hc
    obtain ⟨k, m, e1, e2, e3, e4, e5, e6⟩ := getR_zero hg
    obtain ⟨b, rfl⟩ : ∃ b' : Nat, b = b' := ⟨k + m, by omega⟩
    by_cases hk : a ≤ n ∧ (a = 0 → n = 0)
    · rcases Nat.eq_zero_or_pos a with h0 | h0
      · exact rdictdec_in s hs n a b w hn hg (by omega) hk true (by simp; omega) (fun _ => by have := hk.2 h0; omega)
      · exact rdictdec_in s hs n a b w hn hg (by omega) hk false (by simp; omega) (fun h => by cases h)
    · clear e1 e2 e3 e4 e5 e6
      rw [decD_k hn hg (by omega)]
      have HG := fun w => Lib.hid (rget_ok s 0 w hmx hg)
      by_cases hna : n < a
      · have hna' : (n : Int) < (a : Int) := by omega
        clear hg hk
        go_enter Tryz.func95, Tryz.ntmps95
        go_wp2_with (first
          | (go_at_call 92; (with_reducible refine (HSZ _).out.mono ?_); rintro e w' ⟨rfl, rfl⟩)
          | (go_at_call 63; (with_reducible refine (HG _).out.mono ?_); rintro e w' ⟨rfl, rfl⟩))
        go_ret2
        exact RetVE.mk rfl (OwnV.nil _ _ _ _) (Below.refl _ _)
      · have ha0 : a = 0 := by omega
        have hn0 : 0 < n := by omega
        subst ha0
        clear hg hk hna
        go_enter Tryz.func95, Tryz.ntmps95
        go_wp2_with (first
          | (go_at_call 92; (with_reducible refine (HSZ _).out.mono ?_); rintro e w' ⟨rfl, rfl⟩)
          | (go_at_call 63; (with_reducible refine (HG _).out.mono ?_); rintro e w' ⟨rfl, rfl⟩))
        go_ret2
        exact RetVE.mk rfl (OwnV.nil _ _ _ _) (Below.refl _ _)
  · rw [decD_e hn hg hc]
    have HG := fun w => Lib.hid (rget_is s 0 w hmx hg)
    have hdc : ((c : Int) != 0) = true := by simp; omega
    clear hg hc
    go_enter Tryz.func95, Tryz.ntmps95
    go_wp2_with (first
      | (go_at_call 92; (with_reducible refine (HSZ _).out.mono ?_); rintro e w' ⟨rfl, rfl⟩)
      | (go_at_call 63; (with_reducible refine (HG _).out.mono ?_); rintro e w' ⟨rfl, rfl⟩))
    go_ret2
    exact RetVE.mk rfl (OwnV.nil _ _ _ _) (Below.refl _ _)
end
theorem srt_bab : srt [⟨#[98]⟩, ⟨#[97]⟩, ⟨#[98]⟩] = [⟨#[97]⟩, ⟨#[98]⟩] := by
  refine (srt_is ?_ ?_).symm
  · refine List.pairwise_cons.2 ⟨fun x hx => ?_, Asc.one _⟩
    rw [List.mem_singleton.1 hx]; unfold lts; rw [ByteArray.toList_eq, ByteArray.toList_eq]; decide
  · intro x
    simp only [List.mem_cons, List.not_mem_nil, or_false]
    constructor
    · rintro (h | h)
      · exact .inr (.inl h)
      · exact .inl h
    · rintro (h | h | h)
      · exact .inr h
      · exact .inl h
      · exact .inr h
theorem idx_bab : idx [⟨#[98]⟩, ⟨#[97]⟩, ⟨#[98]⟩] = [1, 0, 1] := by
  have h1 : lts ⟨#[97]⟩ ⟨#[98]⟩ = true := by unfold lts; rw [ByteArray.toList_eq, ByteArray.toList_eq]; decide
  have e1 : plc ⟨#[98]⟩ [⟨#[97]⟩, ⟨#[98]⟩] = 1 := by
    rw [plc, if_pos h1, plc, if_neg (by rw [lts_irr]; decide)]
  have e0 : plc ⟨#[97]⟩ [⟨#[97]⟩, ⟨#[98]⟩] = 0 := by
    rw [plc, if_neg (by rw [lts_irr]; decide)]
  unfold idx
  rw [srt_bab]
  simp only [List.map_cons, List.map_nil, e1, e0]
theorem enc_bab : str (encD [⟨#[98]⟩, ⟨#[97]⟩, ⟨#[98]⟩]) = ⟨#[2, 1, 97, 1, 98, 5]⟩ := by
  rw [encD_in (by decide), srt_bab, idx_bab]
  have e1 : wdt 2 = 1 := by unfold wdt; rw [show (2 : Nat) - 1 = 1 from rfl, wid_pos (by decide), show 1 / 2 = 0 from rfl, wid_zero]
  unfold encW wrds wrd
  simp only [List.length_cons, List.length_nil, List.map_cons, List.map_nil, e1]
  rw [putL_lt (by decide), putL_lt (by decide), putL_lt (by decide)]
  decide +kernel
end Go.Proofs.YtbolbbngncnecaaGreat
