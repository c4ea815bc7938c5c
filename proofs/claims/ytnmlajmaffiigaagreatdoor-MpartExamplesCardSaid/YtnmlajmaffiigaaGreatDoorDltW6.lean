/- The walk over the reference's encoding of differences. -/
import Derived.Test.YtnmlajmaffiigaaGreatDoorDlt
import Derived.Test.YtnmlajmaffiigaaGreatDoorGr
namespace Go.DL
open Go.RowKit Go.VB Go.VarM Go.BP Go.RL
end Go.DL
namespace Go.Proofs.YtnmlajmaffiigaaGreatDoor
open Go.RowKit Go.VB Go.VarM Go.BP Go.RL Go.DL
end Go.Proofs.YtnmlajmaffiigaaGreatDoor
