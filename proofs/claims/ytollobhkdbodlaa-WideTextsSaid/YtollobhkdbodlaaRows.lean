/-
  No cell of these rows narrows 'for every input' (looked for: loops, veiled, ifaces, maps, wideKeys, modest, calm, conditions, laid).
  DERIVED. THE GIVEN ROWS OF THIS SEAT. 9 by the template 'for every input the law returns true; each argument reads behind the call as it read before'; 0 by the template 'total and deterministic' (their statements: YtollobhkdbodlaaTotals.lean).
  GIVEN WITH THE SEED: the statements are not yours to turn. If you find one false, say at which input.
  Laid BY PROGRAM, IN A SANDBOX (cutbox-rows.mjs): the forced cells as the released guide's own fill.sh prints them over the translation cdd1a18e99f514c1… (all of the seat's roots in one cut). By AI agents, Wed Nov 11 2026. No macro, syntax, notation, axiom, sorry.
-/
import Derived.Test.YtollobhkdbodlaaChecked
import GoSem.Claim
import GoSem.ClaimJoined
import GoSem.ClaimMapViews
import Derived.JoinedTies
import Derived.KernelRfl
namespace Go.Proofs.Ytollobhkdbodlaa
/- THE CELL 'sum', in the pinned program and in every row, IS THE sha256 OF THE DUMP (.gsa) THAT YtollobhkdbodlaaProg.lean LOADS. Nothing in Lean hashes anything: it is a label: what it is worth is what the hold of that sum in a sandbox is worth. -/
noncomputable def Try.pinned : Pinned := { name := "ytollobhkdbodlaa", sum := "cdd1a18e99f514c1f7aeb05e0f42d4f7fe7b0e310c86fe28864e362083864b5e", checked := Try.checked }
namespace Rows
def none {H : Type} : Left H := { results := [], args := [] }

/-- 'micropartlaw13.WideExamples': WHATEVER THE INPUT: true; the input reads as it did. -/
def wideExamplesSpec : ChangeSpec := { name := "wideExamples", fn := fun _ => fun
  | [] => { results := [.lit (.bool true)], args := [] }
  | _ => none }
def wideExamplesRow : OpenClaim := { program := "ytollobhkdbodlaa", sum := "cdd1a18e99f514c1f7aeb05e0f42d4f7fe7b0e310c86fe28864e362083864b5e", func := "micropart/micropartlaw13.WideExamples", spec := "wideExamples", apart := false }
def WideExamplesSaid : Prop := wideExamplesRow.holds Try.pinned (OpenSpec.ofChange wideExamplesSpec)

/-- ITS FALSE NEIGHBOUR: 'it returns false'. Refute it at one input. -/
def wideExamplesWrong : ChangeSpec := { name := "wideExamples", fn := fun _ => fun
  | [] => { results := [.lit (.bool false)], args := [] }
  | _ => none }
def WideExamplesWrongFalsely : Prop := wideExamplesRow.holds Try.pinned (OpenSpec.ofChange wideExamplesWrong)

/-- 'micropartlaw13.WideArithmetic': WHATEVER THE INPUT: true; the input reads as it did. -/
def wideArithmeticSpec : ChangeSpec := { name := "wideArithmetic", fn := fun _ => fun
  | [d1, d2, d3] => { results := [.lit (.bool true)], args := [d1, d2, d3] }
  | _ => none }
def wideArithmeticRow : OpenClaim := { program := "ytollobhkdbodlaa", sum := "cdd1a18e99f514c1f7aeb05e0f42d4f7fe7b0e310c86fe28864e362083864b5e", func := "micropart/micropartlaw13.WideArithmetic", spec := "wideArithmetic", apart := false }
def WideArithmeticSaid : Prop := wideArithmeticRow.holds Try.pinned (OpenSpec.ofChange wideArithmeticSpec)

/-- ITS FALSE NEIGHBOUR: 'it returns false'. Refute it at one input. -/
def wideArithmeticWrong : ChangeSpec := { name := "wideArithmetic", fn := fun _ => fun
  | [d1, d2, d3] => { results := [.lit (.bool false)], args := [d1, d2, d3] }
  | _ => none }
def WideArithmeticWrongFalsely : Prop := wideArithmeticRow.holds Try.pinned (OpenSpec.ofChange wideArithmeticWrong)

/-- 'micropartlaw13.WideGroup': WHATEVER THE INPUT: true; the input reads as it did. -/
def wideGroupSpec : ChangeSpec := { name := "wideGroup", fn := fun _ => fun
  | [d1, d2, d3] => { results := [.lit (.bool true)], args := [d1, d2, d3] }
  | _ => none }
def wideGroupRow : OpenClaim := { program := "ytollobhkdbodlaa", sum := "cdd1a18e99f514c1f7aeb05e0f42d4f7fe7b0e310c86fe28864e362083864b5e", func := "micropart/micropartlaw13.WideGroup", spec := "wideGroup", apart := false }
def WideGroupSaid : Prop := wideGroupRow.holds Try.pinned (OpenSpec.ofChange wideGroupSpec)

/-- ITS FALSE NEIGHBOUR: 'it returns false'. Refute it at one input. -/
def wideGroupWrong : ChangeSpec := { name := "wideGroup", fn := fun _ => fun
  | [d1, d2, d3] => { results := [.lit (.bool false)], args := [d1, d2, d3] }
  | _ => none }
def WideGroupWrongFalsely : Prop := wideGroupRow.holds Try.pinned (OpenSpec.ofChange wideGroupWrong)

/-- 'micropartlaw13.WideSmall': WHATEVER THE INPUT: true; the input reads as it did. -/
def wideSmallSpec : ChangeSpec := { name := "wideSmall", fn := fun _ => fun
  | [d1, d2] => { results := [.lit (.bool true)], args := [d1, d2] }
  | _ => none }
def wideSmallRow : OpenClaim := { program := "ytollobhkdbodlaa", sum := "cdd1a18e99f514c1f7aeb05e0f42d4f7fe7b0e310c86fe28864e362083864b5e", func := "micropart/micropartlaw13.WideSmall", spec := "wideSmall", apart := false }
def WideSmallSaid : Prop := wideSmallRow.holds Try.pinned (OpenSpec.ofChange wideSmallSpec)

/-- ITS FALSE NEIGHBOUR: 'it returns false'. Refute it at one input. -/
def wideSmallWrong : ChangeSpec := { name := "wideSmall", fn := fun _ => fun
  | [d1, d2] => { results := [.lit (.bool false)], args := [d1, d2] }
  | _ => none }
def WideSmallWrongFalsely : Prop := wideSmallRow.holds Try.pinned (OpenSpec.ofChange wideSmallWrong)

/-- 'micropartlaw13.WideOrder': WHATEVER THE INPUT: true; the input reads as it did. -/
def wideOrderSpec : ChangeSpec := { name := "wideOrder", fn := fun _ => fun
  | [d1, d2] => { results := [.lit (.bool true)], args := [d1, d2] }
  | _ => none }
def wideOrderRow : OpenClaim := { program := "ytollobhkdbodlaa", sum := "cdd1a18e99f514c1f7aeb05e0f42d4f7fe7b0e310c86fe28864e362083864b5e", func := "micropart/micropartlaw13.WideOrder", spec := "wideOrder", apart := false }
def WideOrderSaid : Prop := wideOrderRow.holds Try.pinned (OpenSpec.ofChange wideOrderSpec)

/-- ITS FALSE NEIGHBOUR: 'it returns false'. Refute it at one input. -/
def wideOrderWrong : ChangeSpec := { name := "wideOrder", fn := fun _ => fun
  | [d1, d2] => { results := [.lit (.bool false)], args := [d1, d2] }
  | _ => none }
def WideOrderWrongFalsely : Prop := wideOrderRow.holds Try.pinned (OpenSpec.ofChange wideOrderWrong)

/-- 'micropartlaw13.WideTexts': WHATEVER THE INPUT: true; the input reads as it did. -/
def wideTextsSpec : ChangeSpec := { name := "wideTexts", fn := fun _ => fun
  | [d1, d2, d3, d4] => { results := [.lit (.bool true)], args := [d1, d2, d3, d4] }
  | _ => none }
def wideTextsRow : OpenClaim := { program := "ytollobhkdbodlaa", sum := "cdd1a18e99f514c1f7aeb05e0f42d4f7fe7b0e310c86fe28864e362083864b5e", func := "micropart/micropartlaw13.WideTexts", spec := "wideTexts", apart := false }
def WideTextsSaid : Prop := wideTextsRow.holds Try.pinned (OpenSpec.ofChange wideTextsSpec)

/-- ITS FALSE NEIGHBOUR: 'it returns false'. Refute it at one input. -/
def wideTextsWrong : ChangeSpec := { name := "wideTexts", fn := fun _ => fun
  | [d1, d2, d3, d4] => { results := [.lit (.bool false)], args := [d1, d2, d3, d4] }
  | _ => none }
def WideTextsWrongFalsely : Prop := wideTextsRow.holds Try.pinned (OpenSpec.ofChange wideTextsWrong)

/-- 'micropartlaw13.WideLimits': WHATEVER THE INPUT: true; the input reads as it did. -/
def wideLimitsSpec : ChangeSpec := { name := "wideLimits", fn := fun _ => fun
  | [d1, d2] => { results := [.lit (.bool true)], args := [d1, d2] }
  | _ => none }
def wideLimitsRow : OpenClaim := { program := "ytollobhkdbodlaa", sum := "cdd1a18e99f514c1f7aeb05e0f42d4f7fe7b0e310c86fe28864e362083864b5e", func := "micropart/micropartlaw13.WideLimits", spec := "wideLimits", apart := false }
def WideLimitsSaid : Prop := wideLimitsRow.holds Try.pinned (OpenSpec.ofChange wideLimitsSpec)

/-- ITS FALSE NEIGHBOUR: 'it returns false'. Refute it at one input. -/
def wideLimitsWrong : ChangeSpec := { name := "wideLimits", fn := fun _ => fun
  | [d1, d2] => { results := [.lit (.bool false)], args := [d1, d2] }
  | _ => none }
def WideLimitsWrongFalsely : Prop := wideLimitsRow.holds Try.pinned (OpenSpec.ofChange wideLimitsWrong)

/-- 'micropartlaw13.WideRoundTrip': WHATEVER THE INPUT: true; the input reads as it did. -/
def wideRoundTripSpec : ChangeSpec := { name := "wideRoundTrip", fn := fun _ => fun
  | [d] => { results := [.lit (.bool true)], args := [d] }
  | _ => none }
def wideRoundTripRow : OpenClaim := { program := "ytollobhkdbodlaa", sum := "cdd1a18e99f514c1f7aeb05e0f42d4f7fe7b0e310c86fe28864e362083864b5e", func := "micropart/micropartlaw13.WideRoundTrip", spec := "wideRoundTrip", apart := false }
def WideRoundTripSaid : Prop := wideRoundTripRow.holds Try.pinned (OpenSpec.ofChange wideRoundTripSpec)

/-- ITS FALSE NEIGHBOUR: 'it returns false'. Refute it at one input. -/
def wideRoundTripWrong : ChangeSpec := { name := "wideRoundTrip", fn := fun _ => fun
  | [d] => { results := [.lit (.bool false)], args := [d] }
  | _ => none }
def WideRoundTripWrongFalsely : Prop := wideRoundTripRow.holds Try.pinned (OpenSpec.ofChange wideRoundTripWrong)

/-- 'micropartlaw13.WideSum': WHATEVER THE INPUT: true; the input reads as it did. -/
def wideSumSpec : ChangeSpec := { name := "wideSum", fn := fun _ => fun
  | [d1, d2] => { results := [.lit (.bool true)], args := [d1, d2] }
  | _ => none }
def wideSumRow : OpenClaim := { program := "ytollobhkdbodlaa", sum := "cdd1a18e99f514c1f7aeb05e0f42d4f7fe7b0e310c86fe28864e362083864b5e", func := "micropart/micropartlaw13.WideSum", spec := "wideSum", apart := false }
def WideSumSaid : Prop := wideSumRow.holds Try.pinned (OpenSpec.ofChange wideSumSpec)

/-- ITS FALSE NEIGHBOUR: 'it returns false'. Refute it at one input. -/
def wideSumWrong : ChangeSpec := { name := "wideSum", fn := fun _ => fun
  | [d1, d2] => { results := [.lit (.bool false)], args := [d1, d2] }
  | _ => none }
def WideSumWrongFalsely : Prop := wideSumRow.holds Try.pinned (OpenSpec.ofChange wideSumWrong)

/- THE SECOND FORM. 'bulk': how many values and letters a reading holds, each counted each time it is reached (what is shared counts as often as it is met; a slice's spare places count too). A statement '..UptoSaid' is the law's where the arguments, and the package variables that the reading takes, are together of bulk at most 1048576: NARROWER than '..Said'. Prove '..Said' where nothing that the law and all that it calls make is longer than what came in: it says more and counts as full. Else prove '..UptoSaid'. A law counts once. -/
mutual
def uptoBulk {H : Type} : DataW H → Nat
  | .lit (.string bytes) => bytes.length + 1
  | .lit _ => 1
  | .nil => 1
  | .ptr d => uptoBulk d + 1
  | .slice elems spare => uptoBulkAll elems + uptoBulkAll spare + 1
  | .agg parts => uptoBulkAll parts + 1
  | .iface _ d => uptoBulk d + 1
  | .map entries => uptoBulkEntries entries + 1
  | .held _ => 1
def uptoBulkAll {H : Type} : List (DataW H) → Nat
  | [] => 0
  | d :: r => uptoBulk d + uptoBulkAll r
def uptoBulkEntries {H : Type} : List (Lit × DataW H) → Nat
  | [] => 0
  | x :: r => uptoBulkEntry x + uptoBulkEntries r
def uptoBulkEntry {H : Type} : Lit × DataW H → Nat
  | (.string bytes, d) => bytes.length + uptoBulk d + 1
  | (_, d) => uptoBulk d + 1
 end
def uptoSmall : (H : Type) → List (DataW H) → Bool := fun _ ds => decide (uptoBulkAll ds ≤ 1048576)
def OpenSpec.upto (s : _root_.Go.ChangeSpec) : _root_.Go.OpenSpec := { _root_.Go.OpenSpec.ofChange s with cond := some uptoSmall }

/-- 'micropartlaw13.WideExamples', WHERE WHAT IT READS IS OF BULK AT MOST 1048576: true; the input reads as it did. -/
def wideExamplesUptoRow : OpenClaim := { program := "ytollobhkdbodlaa", sum := "cdd1a18e99f514c1f7aeb05e0f42d4f7fe7b0e310c86fe28864e362083864b5e", func := "micropart/micropartlaw13.WideExamples", spec := "wideExamples", apart := false, narrowed := true }
def WideExamplesUptoSaid : Prop := wideExamplesUptoRow.holds Try.pinned (OpenSpec.upto wideExamplesSpec)

/-- 'micropartlaw13.WideArithmetic', WHERE WHAT IT READS IS OF BULK AT MOST 1048576: true; the input reads as it did. -/
def wideArithmeticUptoRow : OpenClaim := { program := "ytollobhkdbodlaa", sum := "cdd1a18e99f514c1f7aeb05e0f42d4f7fe7b0e310c86fe28864e362083864b5e", func := "micropart/micropartlaw13.WideArithmetic", spec := "wideArithmetic", apart := false, narrowed := true }
def WideArithmeticUptoSaid : Prop := wideArithmeticUptoRow.holds Try.pinned (OpenSpec.upto wideArithmeticSpec)

/-- 'micropartlaw13.WideGroup', WHERE WHAT IT READS IS OF BULK AT MOST 1048576: true; the input reads as it did. -/
def wideGroupUptoRow : OpenClaim := { program := "ytollobhkdbodlaa", sum := "cdd1a18e99f514c1f7aeb05e0f42d4f7fe7b0e310c86fe28864e362083864b5e", func := "micropart/micropartlaw13.WideGroup", spec := "wideGroup", apart := false, narrowed := true }
def WideGroupUptoSaid : Prop := wideGroupUptoRow.holds Try.pinned (OpenSpec.upto wideGroupSpec)

/-- 'micropartlaw13.WideSmall', WHERE WHAT IT READS IS OF BULK AT MOST 1048576: true; the input reads as it did. -/
def wideSmallUptoRow : OpenClaim := { program := "ytollobhkdbodlaa", sum := "cdd1a18e99f514c1f7aeb05e0f42d4f7fe7b0e310c86fe28864e362083864b5e", func := "micropart/micropartlaw13.WideSmall", spec := "wideSmall", apart := false, narrowed := true }
def WideSmallUptoSaid : Prop := wideSmallUptoRow.holds Try.pinned (OpenSpec.upto wideSmallSpec)

/-- 'micropartlaw13.WideOrder', WHERE WHAT IT READS IS OF BULK AT MOST 1048576: true; the input reads as it did. -/
def wideOrderUptoRow : OpenClaim := { program := "ytollobhkdbodlaa", sum := "cdd1a18e99f514c1f7aeb05e0f42d4f7fe7b0e310c86fe28864e362083864b5e", func := "micropart/micropartlaw13.WideOrder", spec := "wideOrder", apart := false, narrowed := true }
def WideOrderUptoSaid : Prop := wideOrderUptoRow.holds Try.pinned (OpenSpec.upto wideOrderSpec)

/-- 'micropartlaw13.WideTexts', WHERE WHAT IT READS IS OF BULK AT MOST 1048576: true; the input reads as it did. -/
def wideTextsUptoRow : OpenClaim := { program := "ytollobhkdbodlaa", sum := "cdd1a18e99f514c1f7aeb05e0f42d4f7fe7b0e310c86fe28864e362083864b5e", func := "micropart/micropartlaw13.WideTexts", spec := "wideTexts", apart := false, narrowed := true }
def WideTextsUptoSaid : Prop := wideTextsUptoRow.holds Try.pinned (OpenSpec.upto wideTextsSpec)

/-- 'micropartlaw13.WideLimits', WHERE WHAT IT READS IS OF BULK AT MOST 1048576: true; the input reads as it did. -/
def wideLimitsUptoRow : OpenClaim := { program := "ytollobhkdbodlaa", sum := "cdd1a18e99f514c1f7aeb05e0f42d4f7fe7b0e310c86fe28864e362083864b5e", func := "micropart/micropartlaw13.WideLimits", spec := "wideLimits", apart := false, narrowed := true }
def WideLimitsUptoSaid : Prop := wideLimitsUptoRow.holds Try.pinned (OpenSpec.upto wideLimitsSpec)

/-- 'micropartlaw13.WideRoundTrip', WHERE WHAT IT READS IS OF BULK AT MOST 1048576: true; the input reads as it did. -/
def wideRoundTripUptoRow : OpenClaim := { program := "ytollobhkdbodlaa", sum := "cdd1a18e99f514c1f7aeb05e0f42d4f7fe7b0e310c86fe28864e362083864b5e", func := "micropart/micropartlaw13.WideRoundTrip", spec := "wideRoundTrip", apart := false, narrowed := true }
def WideRoundTripUptoSaid : Prop := wideRoundTripUptoRow.holds Try.pinned (OpenSpec.upto wideRoundTripSpec)

/-- 'micropartlaw13.WideSum', WHERE WHAT IT READS IS OF BULK AT MOST 1048576: true; the input reads as it did. -/
def wideSumUptoRow : OpenClaim := { program := "ytollobhkdbodlaa", sum := "cdd1a18e99f514c1f7aeb05e0f42d4f7fe7b0e310c86fe28864e362083864b5e", func := "micropart/micropartlaw13.WideSum", spec := "wideSum", apart := false, narrowed := true }
def WideSumUptoSaid : Prop := wideSumUptoRow.holds Try.pinned (OpenSpec.upto wideSumSpec)

end Rows
end Go.Proofs.Ytollobhkdbodlaa
