/- keep's schemas are valid (parted from SchL, under its own names). -/
import Derived.Test.YtnmlajmaffiigaaGreatDoorGt
import Derived.Test.YtnmlajmaffiigaaGreatDoorBt5b
import Derived.Test.YtnmlajmaffiigaaGreatDoorBt8b
namespace Go.SC
open Go.RowKit Go.VB Go.VL
theorem kcname (n : Nat) (h : n < 4) : nameS (str [UInt8.ofNat (97 + n)]) = true := by
  match n, h with
  | 0, _ => decide +kernel
  | 1, _ => decide +kernel
  | 2, _ => decide +kernel
  | 3, _ => decide +kernel
theorem kcname_ne {n m : Nat} (hn : n < 4) (hm : m < 4) (h : str [UInt8.ofNat (97 + n)] = str [UInt8.ofNat (97 + m)]) : n = m := by
  have h1 := str_inj h
  simp only [List.cons.injEq, and_true] at h1
  have h2 := congrArg UInt8.toNat h1
  rw [UInt8.toNat_ofNat', UInt8.toNat_ofNat'] at h2
  omega
/-- keep's schemas are valid. -/
theorem kokc {cs : List Col} {key : Int} (h : KOK cs key) : chkS cs key = 0 := by
  obtain ⟨h1, h4, hk, k0, k1⟩ := h
  rw [chkS_end (by omega) (by omega), if_neg (by omega)]
  intro i hi
  obtain ⟨a, b, c, d, e⟩ := hk i hi
  have hn : nameS (cs.getD i col0).nm = true := by rw [a]; exact kcname _ (by omega)
  rw [chkCol_scale hn ?_ b, if_neg (by omega)]
  rintro ⟨j, hj, he⟩
  obtain ⟨a', _⟩ := hk j (by omega)
  rw [a, a'] at he
  have := kcname_ne (by omega) (by omega) he
  omega
end Go.SC

namespace Go.RS
open Go.RowKit Go.VB Go.VS Go.SC Go.CK Go.ST Go.MK
def colA : Col := ⟨⟨#[97]⟩, 1, 0, false⟩
theorem colA_chk : chkS [colA] 0 = 0 := by
  refine kokc ⟨by decide, by decide, fun i hi => ?_, by decide, by decide⟩
  obtain rfl : i = 0 := by simp at hi; omega
  exact ⟨rfl, rfl, by decide, by decide, fun _ => rfl⟩
def r1 : Rc := ⟨1, [⟨false, 5, ⟨#[]⟩⟩]⟩
def r2 : Rc := ⟨2, [⟨false, 3, ⟨#[]⟩⟩]⟩
end Go.RS
namespace Go.Proofs.YtnmlajmaffiigaaGreatDoor
open Go.RowKit Go.VB Go.VS Go.SC Go.CK Go.ST Go.MK Go.RS
set_option linter.constructorNameAsVariable false
end Go.Proofs.YtnmlajmaffiigaaGreatDoor

namespace Go.RS
open Go.RowKit Go.VB Go.VS Go.SC Go.CK Go.ST Go.MK
/-- A new variable of four cells (a rank). -/
def NewK (W : World) : Go.Confl.Post := fun v w => ∃ b, v = .pointer (some ⟨b, 0, none⟩) ∧ W.heap.size ≤ b ∧ Var4F w b (.bool false) (.int .i64 0) (.string ⟨#[]⟩) (.int .i64 0)
theorem NewK.stable (W : World) : Go.Confl.Stable (NewK W) := fun _ _ _ ⟨b, h1, h2, h3⟩ hb => ⟨b, h1, h2, h3.step hb⟩
/-- Lists of records that can be read, as a post that stands. -/
def RdRQ (l : List Rc) : Go.Confl.Post := fun v w => RdR w w.heap.size v l
theorem RdRQ.stable (l : List Rc) : Go.Confl.Stable (RdRQ l) := fun _ _ _ h hb => RdR.step h hb
end Go.RS
