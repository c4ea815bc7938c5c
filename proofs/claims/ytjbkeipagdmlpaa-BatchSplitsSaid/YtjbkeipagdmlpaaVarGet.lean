/- The walk over varint.Get. -/
import Derived.Test.YtjbkeipagdmlpaaVarWalks
namespace Go.Proofs.Ytjbkeipagdmlpaa
open Go.RowKit Go.VB Go.VarM

end Go.Proofs.Ytjbkeipagdmlpaa
