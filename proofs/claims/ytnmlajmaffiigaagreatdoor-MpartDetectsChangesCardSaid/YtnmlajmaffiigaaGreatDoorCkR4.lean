/- The walks over the reference's chunks, read: Word, sound, Codec. -/
import Derived.Test.YtnmlajmaffiigaaGreatDoorCkR1
import Derived.Test.YtnmlajmaffiigaaGreatDoorGg
import Derived.Test.YtnmlajmaffiigaaGreatDoorDltW7
import Derived.Test.YtnmlajmaffiigaaGreatDoorCkW8
import Derived.Deep.CutRange
set_option linter.constructorNameAsVariable false
open Go Go.Proofs Go.Proofs.YtnmlajmaffiigaaGreatDoor Go.P
namespace Go.CK
open RowKit VB VarM BP VS VL
theorem Bt2{x y k:Nat}(hx:x<2 ^ k)(hy:y%2 ^ k=0)(h:x+y<4294967296):bits .or .u32 (x:Int) (y:Int)=((x+y:Nat):Int):=by
 rw[u32_or_nat x y (by omega) (by omega),Nat.or_comm,nat_join k y x hy hx,Nat.add_comm]
end Go.CK
namespace Go.P
open RowKit VB VarM BP RL VS VL DI CK NU
end Go.P
namespace Go.P
open RowKit VB VarM BP RL VS VL DI CK NU
end Go.P
namespace Go.P
open RowKit VB VarM BP RL VS VL DI CK NU
section
variable (typ:Int) (s:ByteArray) (n:Nat) (W:World) (zs:s.size<=140737488351232) (hn:n<=4096)
include zs hn
end
end Go.P
namespace Go.VS
open RowKit VB
end Go.VS
namespace Go.CK
open RowKit VB VarM BP VS VL NU
section
variable {typ:Int} {nu:Bool} {s:ByteArray} {n k r m e f:Nat} {q:Int}
end
end Go.CK
namespace Go.P
open RowKit VB VarM BP RL VS VL DI CK NU
section
variable (nm:ByteArray) (ty sc:Int) (nu:Bool) (s:ByteArray) (W:World) (zs:s.size<=140737488351232) (h0:1<=s.size)
include zs h0
end
end Go.P
namespace Go.CK
open RowKit VB VarM BP VS VL NU
end Go.CK
namespace Go.P
open RowKit VB VarM BP RL VS VL DI CK NU
section
variable (nm:ByteArray) (ty sc:Int) (nu:Bool) (s:ByteArray) (W:World) (zs:s.size<=140737488351232) (h0:1<=s.size)
include zs h0
end
end Go.P
namespace Go.CK
open RowKit VB VarM BP VS VL NU
end Go.CK
namespace Go.P
open RowKit VB VarM BP RL VS VL DI CK NU
section
variable (nm:ByteArray) (ty sc:Int) (nu:Bool) (s:ByteArray) (W:World) (zs:s.size<=140737488351232)
include zs
end
end Go.P
