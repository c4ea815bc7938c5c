/- Sorting by merging: package batch's mergeSorted, sortValid, Sort. -/
import Derived.Test.YtnmlajmaffiigaaGreatDoorBt3
import Derived.Test.YtnmlajmaffiigaaGreatDoorBt6
namespace Go.RS
open Go.RowKit Go.VB Go.VS Go.VL Go.SC Go.CK Go.ST Go.MK
def lenS : Value → Nat
  | .slice _ n _ => n
  | _ => 0
theorem addr_zero (a : Addr) : a.add 0 = a := by unfold Addr.add; simp
section
variable {w : World} {B n c : Nat} {ad : Addr} {r : Rc} {l : List Rc} {A : Option Addr} {v : Value}
end
end Go.RS
namespace Go.Proofs.YtnmlajmaffiigaaGreatDoor
open Go.RowKit Go.VB Go.VS Go.VL Go.SC Go.CK Go.ST Go.MK Go.RS
set_option linter.constructorNameAsVariable false
end Go.Proofs.YtnmlajmaffiigaaGreatDoor

namespace Go.ST
section
variable {α : Type} {le : α → α → Bool}
end
end Go.ST
namespace Go.RS
open Go.RowKit Go.VB Go.VS Go.VL Go.SC Go.CK Go.ST Go.MK
end Go.RS
namespace Go.Proofs.YtnmlajmaffiigaaGreatDoor
open Go.RowKit Go.VB Go.VS Go.VL Go.SC Go.CK Go.ST Go.MK Go.RS
set_option linter.constructorNameAsVariable false
end Go.Proofs.YtnmlajmaffiigaaGreatDoor
