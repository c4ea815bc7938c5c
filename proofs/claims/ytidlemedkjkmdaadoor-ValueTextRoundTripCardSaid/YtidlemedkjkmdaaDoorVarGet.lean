/- The walk over varint.Get. -/
import Derived.Test.YtidlemedkjkmdaaDoorVarWalks
namespace Go.Proofs.YtidlemedkjkmdaaDoor
open Go.RowKit Go.VB Go.VarM

end Go.Proofs.YtidlemedkjkmdaaDoor
