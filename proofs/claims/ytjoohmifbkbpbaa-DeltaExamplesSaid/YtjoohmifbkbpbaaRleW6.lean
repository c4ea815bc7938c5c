/- The walk over Decode of package rle. -/
import Derived.Test.YtjoohmifbkbpbaaRleW5
namespace Go.Proofs.Ytjoohmifbkbpbaa
open Go.RowKit Go.VB Go.VarM Go.RL
end Go.Proofs.Ytjoohmifbkbpbaa
