/- The walks over the reference's chunks, read: Word, sound, Codec. -/
import Derived.Test.YtnmlajmaffiigaaGreatDoorCkK
import Derived.Test.YtnmlajmaffiigaaGreatDoorGg
import Derived.Test.YtnmlajmaffiigaaGreatDoorDltW7
import Derived.Test.YtnmlajmaffiigaaGreatDoorCkW8
import Derived.Deep.CutRange
namespace Go.CK
open Go.RowKit Go.VB Go.VarM Go.BP Go.VS Go.VL Go.Proofs.YtnmlajmaffiigaaGreatDoor
end Go.CK
namespace Go.Proofs.YtnmlajmaffiigaaGreatDoor
open Go.RowKit Go.VB Go.VarM Go.BP Go.RL Go.VS Go.VL Go.DI Go.CK Go.NU
end Go.Proofs.YtnmlajmaffiigaaGreatDoor

namespace Go.Proofs.YtnmlajmaffiigaaGreatDoor
open Go.RowKit Go.VB Go.VarM Go.BP Go.RL Go.VS Go.VL Go.DI Go.CK Go.NU
end Go.Proofs.YtnmlajmaffiigaaGreatDoor

namespace Go.Proofs.YtnmlajmaffiigaaGreatDoor
open Go.RowKit Go.VB Go.VarM Go.BP Go.RL Go.VS Go.VL Go.DI Go.CK Go.NU
section
variable (typ : Int) (s : ByteArray) (n : Nat) (W : World) (zs : s.size ≤ 140737488351232) (hn : n ≤ 4096)
include zs hn
end
end Go.Proofs.YtnmlajmaffiigaaGreatDoor

namespace Go.VS
open Go.RowKit Go.VB
end Go.VS
namespace Go.CK
open Go.RowKit Go.VB Go.VarM Go.BP Go.VS Go.VL Go.NU Go.Proofs.YtnmlajmaffiigaaGreatDoor
section
variable {typ : Int} {nu : Bool} {s : ByteArray} {n k r m e f : Nat} {q : Int}
end
end Go.CK
namespace Go.Proofs.YtnmlajmaffiigaaGreatDoor
open Go.RowKit Go.VB Go.VarM Go.BP Go.RL Go.VS Go.VL Go.DI Go.CK Go.NU
section
variable (nm : ByteArray) (ty sc : Int) (nu : Bool) (s : ByteArray) (W : World) (zs : s.size ≤ 140737488351232) (h0 : 1 ≤ s.size)
include zs h0
end
end Go.Proofs.YtnmlajmaffiigaaGreatDoor

namespace Go.CK
open Go.RowKit Go.VB Go.VarM Go.BP Go.VS Go.VL Go.NU Go.Proofs.YtnmlajmaffiigaaGreatDoor
end Go.CK
namespace Go.Proofs.YtnmlajmaffiigaaGreatDoor
open Go.RowKit Go.VB Go.VarM Go.BP Go.RL Go.VS Go.VL Go.DI Go.CK Go.NU
section
variable (nm : ByteArray) (ty sc : Int) (nu : Bool) (s : ByteArray) (W : World) (zs : s.size ≤ 140737488351232) (h0 : 1 ≤ s.size)
include zs h0
end
end Go.Proofs.YtnmlajmaffiigaaGreatDoor

namespace Go.CK
open Go.RowKit Go.VB Go.VarM Go.BP Go.VS Go.VL Go.NU Go.Proofs.YtnmlajmaffiigaaGreatDoor
end Go.CK
namespace Go.Proofs.YtnmlajmaffiigaaGreatDoor
open Go.RowKit Go.VB Go.VarM Go.BP Go.RL Go.VS Go.VL Go.DI Go.CK Go.NU
section
variable (nm : ByteArray) (ty sc : Int) (nu : Bool) (s : ByteArray) (W : World) (zs : s.size ≤ 140737488351232)
include zs
end
end Go.Proofs.YtnmlajmaffiigaaGreatDoor
