/- The walk over the reference's reading of differences. -/
import Derived.Test.YtnmlajmaffiigaaGreatDoorDlt
import Derived.Test.YtnmlajmaffiigaaGreatDoorDltW6
import Derived.Deep.RegionLaw
set_option linter.constructorNameAsVariable false
open Go Go.Proofs Go.Proofs.YtnmlajmaffiigaaGreatDoor Go.P
namespace Go.VB
open RowKit
end Go.VB
namespace Go.DL
open RowKit VB VarM BP RL
end Go.DL
namespace Go.P
open RowKit VB VarM BP RL DL
end Go.P
