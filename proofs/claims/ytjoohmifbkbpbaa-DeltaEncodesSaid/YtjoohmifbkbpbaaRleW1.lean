/- The walks over package rle and its reference: runs. -/
import Derived.Test.YtjoohmifbkbpbaaRleM
import Derived.StillTailTactics
import Derived.Deep.RegionWith
namespace Go.Proofs.Ytjoohmifbkbpbaa
open Go.RowKit Go.VB Go.VarM Go.RL
end Go.Proofs.Ytjoohmifbkbpbaa
