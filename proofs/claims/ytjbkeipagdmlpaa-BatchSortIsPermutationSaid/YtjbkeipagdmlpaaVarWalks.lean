/- The walks over package varint: what Put, Size, Get, Zig and Zag return. -/
import Derived.Test.YtjbkeipagdmlpaaVarMath
namespace Go.Proofs.Ytjbkeipagdmlpaa
open Go.RowKit Go.VB Go.VarM

theorem Try.infoU8 : (Try.prog.info? 5).map (fun i => (i.zero, i.size, i.bytes)) = some (some (.int .u8 0), 1, 1) := by kernel_rfl







end Go.Proofs.Ytjbkeipagdmlpaa
