/- The walk over the reference's count of runs. -/
import Derived.Test.YtcacmabiebmkjaaRleW2
namespace Go.Proofs.Ytcacmabiebmkjaa
open Go.RowKit Go.VB Go.VarM Go.RL
set_option maxRecDepth 100000 in
set_option maxHeartbeats 1000000 in
theorem runsof_any (v : Value) (l : List Int) (B : Nat) (w : World) (hr : RdV (Value.int .i64) w B v l) (hB : B ≤ w.heap.size) (hl : l.length ≤ 17592186043904) :
    Calls Try.prog 15 #[v] w (RetB (.int .i64 (nR l : Nat)) w) := by
  obtain ⟨A, c, rfl, hc1, hc2, hr'⟩ := hr
  have hr : RdV (Value.int .i64) w B (.slice A l.length c) l := ⟨A, c, rfl, hc1, hc2, hr'⟩
  clear hr'
  unfold maxLen at hc2
  have HR := Lib.hid hr; clear hr
  have h0 := nD_all l
  generalize hT : nR l = T at h0
  have H0 := Lib.hid h0; clear hT h0
  go_enter Try.func15, Try.ntmps15
  go_wp2
  go_loopw [3, 7] (fun k i wr => ∃ (m j : Nat), k = .int .i64 m ∧ i = .int .i64 j ∧ j ≤ l.length ∧ m ≤ j ∧ m + nD (prev l j) (l.drop j) = T ∧ Below w.heap.size w wr) (fun _ i _ => l.length - (intOf i).toNat)
  case atStart => exact ⟨0, 0, rfl, rfl, Nat.zero_le _, Nat.le_refl _, by rw [Nat.zero_add]; exact H0.out, Below.refl _ _⟩
  case round =>
    obtain ⟨m, j, rfl, rfl, hj, hm, hs, hbel⟩ := hrel
    have HS := Lib.hid hs; clear hs
    by_cases hlt : j < l.length
    · have hlj : l[j]? = some l[j] := List.getElem?_eq_getElem hlt
      have h1 := nD_at hlj
      obtain ⟨_, _, hv1, _, _, hcx⟩ := HR.out.below (hbel.mono hB)
      cases hv1
      obtain ⟨ad, rfl, _, hgx⟩ := hcx j _ hlj
      by_cases hz : j = 0
      · subst hz
        have hp : prev l 0 = none := rfl
        rw [hp, if_neg (by simp)] at h1
        simp only [Nat.zero_add] at h1
        rw [hp] at HS
        have H1 := Lib.hid h1; have HP := Lib.hid hp; clear h1 hcx hp hlj
        have hd : (((0 : Nat) : Int) == 0) = true := rfl
        go_wp2_with fail
        go_region
        go_wp2_with fail
        go_roundw
        case rel => exact ⟨m + 1, 1, by go_num, by go_num, hlt, by omega, by have := HS.out; have := H1.out; omega, hbel.drew⟩
        case measure => simp [intOf] <;> omega
      · have hlp : l[j - 1]? = some l[j - 1] := List.getElem?_eq_getElem (by omega)
        have hp : prev l j = some l[j - 1] := by unfold prev; rw [if_neg hz, hlp]
        obtain ⟨_, e1, _, hgp⟩ := hcx (j - 1) _ hlp
        cases e1
        rw [hp] at h1 HS
        have HP := Lib.hid hp; clear hcx hp hlj hlp
        generalize l[j] = x at *
        generalize l[j - 1] = y at *
        have hj1 : 1 ≤ j := by omega
        have hd : ((j : Int) == 0) = false := by simp; omega
        clear hz
        by_cases hxy : y = x
        · subst hxy
          rw [if_pos rfl, Nat.zero_add] at h1
          have H1 := Lib.hid h1; clear h1
          have hd2 : (y != y) = false := by simp
          go_wp2_with fail
          go_region
          go_wp2_with fail
          go_roundw
          case rel => exact ⟨m, j + 1, by go_num, by go_num, hlt, by omega, by have := HS.out; rw [H1.out] at this; exact this, hbel.drew⟩
          case measure => simp [intOf] <;> omega
        · rw [if_neg (by simpa using hxy)] at h1
          have H1 := Lib.hid h1; clear h1
          have hd2 : (x != y) = true := by simpa using fun e => hxy e.symm
          clear hxy
          go_wp2_with fail
          go_region
          go_wp2_with fail
          go_roundw
          case rel => exact ⟨m + 1, j + 1, by go_num, by go_num, hlt, by omega, by have := HS.out; have := H1.out; omega, hbel.drew⟩
          case measure => simp [intOf] <;> omega
    · go_wp2
      go_ret
      have he : l.drop j = [] := List.drop_eq_nil_of_le (by omega)
      exact RetB.mk (vint (by have h := HS.out; rw [he, nD] at h; omega)) hbel
end Go.Proofs.Ytcacmabiebmkjaa
