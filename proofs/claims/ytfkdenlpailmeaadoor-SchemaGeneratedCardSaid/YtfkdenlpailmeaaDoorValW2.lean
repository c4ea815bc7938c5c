/- The walks over Check, package value's and the reference's. -/
import Derived.Test.YtfkdenlpailmeaaDoorValW1
namespace Go.VL
open Go.RowKit Go.VB
theorem s_empty {s : ByteArray} (h : s.size = 0) : s = ⟨#[]⟩ := by
  apply ByteArray.ext
  apply Array.toList_inj.1
  exact List.eq_nil_of_length_eq_zero (by rw [size_list]; omega)
theorem s_full {s : ByteArray} (h : ¬ s.size = 0) : s.toList.isEmpty = false := by
  rw [ByteArray.toList_eq]
  cases hl : s.data.toList with
  | nil => rw [← size_list, hl] at h; exact absurd rfl h
  | cons _ _ => rfl
theorem perm_bool {ty n : Int} {s : ByteArray} {b : Bool} (h : okP ty n s = b) : (if okP ty n s then (0 : Nat) else 4) = if b then 0 else 4 := by rw [h]
end Go.VL
namespace Go.Proofs.YtfkdenlpailmeaaDoor
open Go.RowKit Go.VB Go.VL
end Go.Proofs.YtfkdenlpailmeaaDoor
