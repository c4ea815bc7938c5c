/- The walks over Find, of package schema and of the reference. -/
import Derived.Test.YtjbkeipagdmlpaaSchW1
import Derived.Test.YtjbkeipagdmlpaaValV
import Derived.Test.YtjbkeipagdmlpaaValW1
namespace Go.Proofs.Ytjbkeipagdmlpaa
open Go.RowKit Go.VB Go.VL Go.SC
set_option linter.constructorNameAsVariable false
theorem Try.sizeCol : (Try.prog.info? 66).map (·.size) = some 4 := by kernel_rfl
set_option maxRecDepth 100000 in
set_option maxHeartbeats 2000000 in
theorem find_any (cs : List Col) (v : Value) (key : Int) (nm : ByteArray) (W : World) (hr : RdC W W.heap.size v cs) :
    Calls Try.prog 68 #[.agg #[v, .int .i64 key], .string nm] W (RetB (.int .i64 (fnd cs nm)) W) := by
  have HH := fun i => Lib.hid (fnd_hit (cs := cs) (nm := nm) (i := i))
  have HM := Lib.hid (fnd_miss (cs := cs) (nm := nm))
  obtain ⟨A, c, rfl, hc, hm, hrr⟩ := hr
  have hX : ∀ j, j < cs.length → ∃ ad, A = some ad ∧ ad.block < W.heap.size ∧ At4 W ad j (cs.getD j col0) := hrr
  clear hrr
  unfold maxLen at hm
  have HX := Lib.hid hX; clear hX
  go_enter Try.func68, Try.ntmps68
  go_wp2_with fail
  go_loopw [4, 5, 6, 10] (fun r _ _ j wr => ∃ k : Nat, r = .int .i64 0 ∧ j = .int .i64 k ∧ k ≤ cs.length ∧ Below W.heap.size W wr ∧ ∀ m, m < k → ¬ (cs.getD m col0).nm = nm) (fun _ _ _ j _ => cs.length - (intOf j).toNat)
  case atStart => exact ⟨0, rfl, rfl, Nat.zero_le _, by go_grown, none_below⟩
  case round =>
    obtain ⟨k, rfl, rfl, hk, hB, hf⟩ := hrel
    have HP := Lib.hid hf; clear hf
    by_cases hlt : k < cs.length
    · obtain ⟨ad, rfl, hab, hat⟩ := HX.out k hlt
      obtain ⟨q0, q1, q2, q3⟩ := hat.below hB hab
      have HHk := fun h => Lib.hid ((HH k).out hlt h HP.out)
      have HN := fun h => Lib.hid (snoc (p := fun m => ¬ (cs.getD m col0).nm = nm) (j := k) HP.out h)
      clear HX HH HM HP hat hab
      generalize cs.getD k col0 = C at *
      obtain ⟨cn, ct, csc, cnu⟩ := C
      replace HHk : cn = nm → Hid (fnd cs nm = k) := HHk
      replace HN : ¬ cn = nm → Hid (∀ m, m < k + 1 → ¬ (cs.getD m col0).nm = nm) := HN
      by_cases he : cn = nm
      · have HE := HHk he
        have ht := text_eq he
        clear HN HHk he
        go_wp2_with fail
        go_ret
        exact RetB.mk (congrArg (Value.int .i64) HE.out.symm) (hB.alloc hB.size _)
      · have HE := HN he
        have ht := text_ne he
        clear HN HHk he
        go_wp2_with fail
        go_roundw
        case rel => exact ⟨k + 1, rfl, by go_num, hlt, hB.alloc hB.size _, HE.out⟩
        case measure => simp [intOf] <;> omega
    · clear HX HH
      have HE := Lib.hid (HM.out (fun j hj => HP.out j (by omega)))
      clear HM HP
      go_wp2
      go_ret
      exact RetB.mk (congrArg (Value.int .i64) HE.out.symm) hB
end Go.Proofs.Ytjbkeipagdmlpaa
