/- The statements' own makers: lists with long runs; lists compared; the statements' example. -/
import Derived.Test.YtbolbbngncnecaaGreatGS
import Derived.Test.YtbolbbngncnecaaGreatG9
namespace Go.RL
open Go.RowKit Go.VB
/-- A list of the call's own, of at most 310 numbers. -/
def RunsP (e : TypeId) (w : World) : Ending → World → Prop := fun en w' => ∃ v l, en = .returned v ∧ OwnV (Value.int .i64) e w' w.heap.size v l ∧ l.length ≤ 310 ∧ I64 l ∧ Below w.heap.size w w'
theorem RunsP.mk {e : TypeId} {w w' : World} {x v : Value} {l : List Int} (hx : x = v) (ho : OwnV (Value.int .i64) e w' w.heap.size v l) (hl : l.length ≤ 310) (hi : I64 l) (hb : Below w.heap.size w w') : RunsP e w (.returned x) w' := ⟨v, l, by rw [hx], ho, hl, hi, hb⟩
end Go.RL
namespace Go.Proofs.YtbolbbngncnecaaGreat
open Go.RowKit Go.VB Go.VarM Go.RL Go.KS
end Go.Proofs.YtbolbbngncnecaaGreat
