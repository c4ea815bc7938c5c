/- The walk over the reference's count of runs. -/
import Derived.Test.YtjoohmifbkbpbaaRleW2
namespace Go.Proofs.Ytjoohmifbkbpbaa
open Go.RowKit Go.VB Go.VarM Go.RL
end Go.Proofs.Ytjoohmifbkbpbaa
