/- The walks over the law's column and near. -/
import Derived.Test.YtjbkeipagdmlpaaValW4
namespace Go.Proofs.Ytjbkeipagdmlpaa
open Go.RowKit Go.VB Go.VL
def ctyp (t : Int) : Int := 1 + pickN t 5
def cscale (t k : Int) : Int := if ctyp t = 5 then pickN k 19 else 0
theorem ctyp_bd (t : Int) : 1 ≤ ctyp t ∧ ctyp t ≤ 5 := by have := pickN_bd t (n := 5) (by omega); unfold ctyp; omega
theorem cscale_bd (t k : Int) : 0 ≤ cscale t k ∧ cscale t k ≤ 18 := by
  have := pickN_bd k (n := 19) (by omega)
  unfold cscale; split <;> omega
/-- The name of a column. -/
def xs : ByteArray := ⟨#[120]⟩
def nears : List Int := [0, 1, 2, -1, -719162, -719163, 2932896, 2932897, 999999999999999999, 1000000000000000000, -999999999999999999, -1000000000000000000]
def nearI (n : Int) : Int := pickN (wrap64 (n.tdiv 5)) 12
def nearN (n : Int) : Int := nears.getD (nearI n).toNat 0
def nearB (n : Int) : Bool := pickN n 5 == 0
end Go.Proofs.Ytjbkeipagdmlpaa
