/- The walks over package rle and its reference: runs. -/
import Derived.Test.YtcacmabiebmkjaaRleM
import Derived.StillTailTactics
import Derived.Deep.RegionWith
namespace Go.Proofs.Ytcacmabiebmkjaa
open Go.RowKit Go.VB Go.VarM Go.RL
set_option maxRecDepth 100000 in
set_option maxHeartbeats 1000000 in
theorem first_any (v : Value) (l : List Int) (x : Int) (B : Nat) (w : World) (hr : RdV (Value.int .i64) w B v l) (hB : B ≤ w.heap.size) (hx : l[0]? = some x) :
    Calls Try.prog 20 #[v] w (RetB (.int .i64 (fr x l : Nat)) w) := by
  obtain ⟨A, c, rfl, hc1, hc2, hr'⟩ := hr
  have hr : RdV (Value.int .i64) w B (.slice A l.length c) l := ⟨A, c, rfl, hc1, hc2, hr'⟩
  clear hr'
  unfold maxLen at hc2
  have h0 := fr_step hx
  rw [List.drop_zero] at h0
  have hl0 : 0 < l.length := (List.getElem?_eq_some_iff.1 hx).1
  have hfl := fr_le x l
  generalize hT : fr x l = T at h0 hfl ⊢
  have HT := Lib.hid hT; have H0 := Lib.hid h0; have HR := Lib.hid hr; have HX := Lib.hid hx
  clear hT h0 hr hx
  go_enter Try.func20, Try.ntmps20
  go_wp2
  go_loopw [3] (fun i wr => ∃ j : Nat, i = .int .i64 j ∧ j ≤ l.length ∧ 1 ≤ j ∧ T = fr x (l.drop j) + j ∧ Below w.heap.size w wr) (fun i _ => l.length - (intOf i).toNat)
  case atStart => exact ⟨1, rfl, hl0, Nat.le_refl _, H0.out, Below.refl _ _⟩
  case round =>
    obtain ⟨j, rfl, hj, hj1, hs, hbel⟩ := hrel
    have HS := Lib.hid hs; clear hs
    by_cases hlt : j < l.length
    · have hlj : l[j]? = some l[j] := List.getElem?_eq_getElem hlt
      obtain ⟨_, _, hv1, _, _, hcx⟩ := HR.out.below (hbel.mono hB)
      cases hv1
      obtain ⟨ad, rfl, _, hgx⟩ := hcx j _ hlj
      obtain ⟨_, e1, _, hg0⟩ := hcx 0 _ HX.out
      cases e1
      rw [addr_zero] at hg0
      have hst : l[j] = x → fr x (l.drop j) = fr x (l.drop (j + 1)) + 1 := fun e => fr_step (by rw [hlj, e])
      have hsp : l[j] ≠ x → fr x (l.drop j) = 0 := fun e => fr_stop hlj e
      have HST := Lib.hid hst; have HSP := Lib.hid hsp
      clear hcx hlj hst hsp
      generalize l[j] = y at hgx HST HSP
      by_cases hy : y = x
      · subst hy
        have hd : (y == y) = true := beq_self_eq_true _
        go_wp2_with fail
        go_region
        go_wp2_with fail
        go_roundw
        case rel => exact ⟨j + 1, by go_num, hlt, by omega, by rw [HS.out, HST.out (by simp)]; omega, hbel.drew⟩
        case measure => simp [intOf] <;> omega
      · have hd : (y == x) = false := beq_eq_false_iff_ne.2 hy
        have HY := Lib.hid hy; clear hy
        go_wp2_with fail
        go_region
        go_wp2
        go_ret
        exact RetB.mk (vint (by rw [HS.out, HSP.out HY.out]; simp)) hbel.drew
    · have he := fr_end (v := x) (l := l) (j := j) (by omega)
      have HE := Lib.hid he; clear he
      go_wp2_with fail
      go_region
      go_wp2
      go_ret
      exact RetB.mk (vint (by rw [HS.out, HE.out]; simp)) hbel.drew
end Go.Proofs.Ytcacmabiebmkjaa
