/- The statements' own makers of rows and records: row, Rows. -/
import Derived.Test.YtnmlajmaffiigaaGreatDoorBt6
import Derived.Test.YtnmlajmaffiigaaGreatDoorGk
import Derived.Test.YtnmlajmaffiigaaGreatDoorGt
import Derived.Test.YtnmlajmaffiigaaGreatDoorBt7b
import Derived.Deep.RegionWith
namespace Go.RS
open Go.RowKit Go.VB Go.VS Go.SC Go.CK Go.ST Go.MK
section
variable {w0 w w' : World} {B B2 g base : Nat} {sv : Value} {zl : List Int}
end
/-- Each number lies within 64 bits. -/
def InV (l : List Vl) : Prop := ∀ x ∈ l, -9223372036854775808 ≤ x.n ∧ x.n ≤ 9223372036854775807
def InR (l : List Rc) : Prop := ∀ r ∈ l, InV r.row
end Go.RS
namespace Go.Proofs.YtnmlajmaffiigaaGreatDoor
open Go.RowKit Go.VB Go.VS Go.SC Go.CK Go.ST Go.MK Go.RS
set_option linter.constructorNameAsVariable false
end Go.Proofs.YtnmlajmaffiigaaGreatDoor

namespace Go.RS
open Go.RowKit Go.VB Go.VS Go.SC Go.CK Go.ST Go.MK
end Go.RS
namespace Go.Proofs.YtnmlajmaffiigaaGreatDoor
open Go.RowKit Go.VB Go.VS Go.SC Go.CK Go.ST Go.MK Go.RS
set_option linter.constructorNameAsVariable false
end Go.Proofs.YtnmlajmaffiigaaGreatDoor
