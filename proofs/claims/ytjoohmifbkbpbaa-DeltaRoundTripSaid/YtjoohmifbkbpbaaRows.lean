/-
  No cell of these rows narrows 'for every input' (looked for: loops, veiled, ifaces, maps, wideKeys, modest, calm, conditions, laid).
  DERIVED. THE GIVEN ROWS OF THIS SEAT. 6 by the template 'for every input the law returns true; each argument reads behind the call as it read before'; 0 by the template 'total and deterministic' (their statements: YtjoohmifbkbpbaaTotals.lean).
  GIVEN WITH THE SEED: the statements are not yours to turn. If you find one false, say at which input.
  Laid BY PROGRAM, IN A SANDBOX (cutbox-rows.mjs): the forced cells as the released guide's own fill.sh prints them over the translation b57af0fcc726dd07… (all of the seat's roots in one cut). By AI agents, Wed Nov 11 2026. No macro, syntax, notation, axiom, sorry.
-/
import Derived.Test.YtjoohmifbkbpbaaChecked
import GoSem.Claim
import GoSem.ClaimJoined
import GoSem.ClaimMapViews
import Derived.JoinedTies
import Derived.KernelRfl
namespace Go.Proofs.Ytjoohmifbkbpbaa
/- THE CELL 'sum', in the pinned program and in every row, IS THE sha256 OF THE DUMP (.gsa) THAT YtjoohmifbkbpbaaProg.lean LOADS. Nothing in Lean hashes anything: it is a label: what it is worth is what the hold of that sum in a sandbox is worth. -/
noncomputable def Try.pinned : Pinned := { name := "ytjoohmifbkbpbaa", sum := "b57af0fcc726dd07d309285079141aa17440766bdaf677a17c11fa1b2175cea3", checked := Try.checked }
namespace Rows
def none {H : Type} : Left H := { results := [], args := [] }

/-- 'micropartlaw11.DeltaExamples': WHATEVER THE INPUT: true; the input reads as it did. -/
def deltaExamplesSpec : ChangeSpec := { name := "deltaExamples", fn := fun _ => fun
  | [] => { results := [.lit (.bool true)], args := [] }
  | _ => none }
def deltaExamplesRow : OpenClaim := { program := "ytjoohmifbkbpbaa", sum := "b57af0fcc726dd07d309285079141aa17440766bdaf677a17c11fa1b2175cea3", func := "micropart/micropartlaw11.DeltaExamples", spec := "deltaExamples", apart := false }
def DeltaExamplesSaid : Prop := deltaExamplesRow.holds Try.pinned (OpenSpec.ofChange deltaExamplesSpec)

/-- ITS FALSE NEIGHBOUR: 'it returns false'. Refute it at one input. -/
def deltaExamplesWrong : ChangeSpec := { name := "deltaExamples", fn := fun _ => fun
  | [] => { results := [.lit (.bool false)], args := [] }
  | _ => none }
def DeltaExamplesWrongFalsely : Prop := deltaExamplesRow.holds Try.pinned (OpenSpec.ofChange deltaExamplesWrong)

/-- 'micropartlaw11.DeltaEncodes': WHATEVER THE INPUT: true; the input reads as it did. -/
def deltaEncodesSpec : ChangeSpec := { name := "deltaEncodes", fn := fun _ => fun
  | [d1, d2] => { results := [.lit (.bool true)], args := [d1, d2] }
  | _ => none }
def deltaEncodesRow : OpenClaim := { program := "ytjoohmifbkbpbaa", sum := "b57af0fcc726dd07d309285079141aa17440766bdaf677a17c11fa1b2175cea3", func := "micropart/micropartlaw11.DeltaEncodes", spec := "deltaEncodes", apart := false }
def DeltaEncodesSaid : Prop := deltaEncodesRow.holds Try.pinned (OpenSpec.ofChange deltaEncodesSpec)

/-- ITS FALSE NEIGHBOUR: 'it returns false'. Refute it at one input. -/
def deltaEncodesWrong : ChangeSpec := { name := "deltaEncodes", fn := fun _ => fun
  | [d1, d2] => { results := [.lit (.bool false)], args := [d1, d2] }
  | _ => none }
def DeltaEncodesWrongFalsely : Prop := deltaEncodesRow.holds Try.pinned (OpenSpec.ofChange deltaEncodesWrong)

/-- 'micropartlaw11.DeltaDecodes': WHATEVER THE INPUT: true; the input reads as it did. -/
def deltaDecodesSpec : ChangeSpec := { name := "deltaDecodes", fn := fun _ => fun
  | [d1, d2] => { results := [.lit (.bool true)], args := [d1, d2] }
  | _ => none }
def deltaDecodesRow : OpenClaim := { program := "ytjoohmifbkbpbaa", sum := "b57af0fcc726dd07d309285079141aa17440766bdaf677a17c11fa1b2175cea3", func := "micropart/micropartlaw11.DeltaDecodes", spec := "deltaDecodes", apart := false }
def DeltaDecodesSaid : Prop := deltaDecodesRow.holds Try.pinned (OpenSpec.ofChange deltaDecodesSpec)

/-- ITS FALSE NEIGHBOUR: 'it returns false'. Refute it at one input. -/
def deltaDecodesWrong : ChangeSpec := { name := "deltaDecodes", fn := fun _ => fun
  | [d1, d2] => { results := [.lit (.bool false)], args := [d1, d2] }
  | _ => none }
def DeltaDecodesWrongFalsely : Prop := deltaDecodesRow.holds Try.pinned (OpenSpec.ofChange deltaDecodesWrong)

/-- 'micropartlaw11.DeltaMutations': WHATEVER THE INPUT: true; the input reads as it did. -/
def deltaMutationsSpec : ChangeSpec := { name := "deltaMutations", fn := fun _ => fun
  | [d1, d2, d3, d4] => { results := [.lit (.bool true)], args := [d1, d2, d3, d4] }
  | _ => none }
def deltaMutationsRow : OpenClaim := { program := "ytjoohmifbkbpbaa", sum := "b57af0fcc726dd07d309285079141aa17440766bdaf677a17c11fa1b2175cea3", func := "micropart/micropartlaw11.DeltaMutations", spec := "deltaMutations", apart := false }
def DeltaMutationsSaid : Prop := deltaMutationsRow.holds Try.pinned (OpenSpec.ofChange deltaMutationsSpec)

/-- ITS FALSE NEIGHBOUR: 'it returns false'. Refute it at one input. -/
def deltaMutationsWrong : ChangeSpec := { name := "deltaMutations", fn := fun _ => fun
  | [d1, d2, d3, d4] => { results := [.lit (.bool false)], args := [d1, d2, d3, d4] }
  | _ => none }
def DeltaMutationsWrongFalsely : Prop := deltaMutationsRow.holds Try.pinned (OpenSpec.ofChange deltaMutationsWrong)

/-- 'micropartlaw11.DeltaRoundTrip': WHATEVER THE INPUT: true; the input reads as it did. -/
def deltaRoundTripSpec : ChangeSpec := { name := "deltaRoundTrip", fn := fun _ => fun
  | [d1, d2] => { results := [.lit (.bool true)], args := [d1, d2] }
  | _ => none }
def deltaRoundTripRow : OpenClaim := { program := "ytjoohmifbkbpbaa", sum := "b57af0fcc726dd07d309285079141aa17440766bdaf677a17c11fa1b2175cea3", func := "micropart/micropartlaw11.DeltaRoundTrip", spec := "deltaRoundTrip", apart := false }
def DeltaRoundTripSaid : Prop := deltaRoundTripRow.holds Try.pinned (OpenSpec.ofChange deltaRoundTripSpec)

/-- ITS FALSE NEIGHBOUR: 'it returns false'. Refute it at one input. -/
def deltaRoundTripWrong : ChangeSpec := { name := "deltaRoundTrip", fn := fun _ => fun
  | [d1, d2] => { results := [.lit (.bool false)], args := [d1, d2] }
  | _ => none }
def DeltaRoundTripWrongFalsely : Prop := deltaRoundTripRow.holds Try.pinned (OpenSpec.ofChange deltaRoundTripWrong)

/-- 'micropartlaw11.DeltaSteady': WHATEVER THE INPUT: true; the input reads as it did. -/
def deltaSteadySpec : ChangeSpec := { name := "deltaSteady", fn := fun _ => fun
  | [d1, d2, d3] => { results := [.lit (.bool true)], args := [d1, d2, d3] }
  | _ => none }
def deltaSteadyRow : OpenClaim := { program := "ytjoohmifbkbpbaa", sum := "b57af0fcc726dd07d309285079141aa17440766bdaf677a17c11fa1b2175cea3", func := "micropart/micropartlaw11.DeltaSteady", spec := "deltaSteady", apart := false }
def DeltaSteadySaid : Prop := deltaSteadyRow.holds Try.pinned (OpenSpec.ofChange deltaSteadySpec)

/-- ITS FALSE NEIGHBOUR: 'it returns false'. Refute it at one input. -/
def deltaSteadyWrong : ChangeSpec := { name := "deltaSteady", fn := fun _ => fun
  | [d1, d2, d3] => { results := [.lit (.bool false)], args := [d1, d2, d3] }
  | _ => none }
def DeltaSteadyWrongFalsely : Prop := deltaSteadyRow.holds Try.pinned (OpenSpec.ofChange deltaSteadyWrong)

/- THE SECOND FORM. 'bulk': how many values and letters a reading holds, each counted each time it is reached (what is shared counts as often as it is met; a slice's spare places count too). A statement '..UptoSaid' is the law's where the arguments, and the package variables that the reading takes, are together of bulk at most 1048576: NARROWER than '..Said'. Prove '..Said' where nothing that the law and all that it calls make is longer than what came in: it says more and counts as full. Else prove '..UptoSaid'. A law counts once. -/
mutual
def uptoBulk {H : Type} : DataW H → Nat
  | .lit (.string bytes) => bytes.length + 1
  | .lit _ => 1
  | .nil => 1
  | .ptr d => uptoBulk d + 1
  | .slice elems spare => uptoBulkAll elems + uptoBulkAll spare + 1
  | .agg parts => uptoBulkAll parts + 1
  | .iface _ d => uptoBulk d + 1
  | .map entries => uptoBulkEntries entries + 1
  | .held _ => 1
def uptoBulkAll {H : Type} : List (DataW H) → Nat
  | [] => 0
  | d :: r => uptoBulk d + uptoBulkAll r
def uptoBulkEntries {H : Type} : List (Lit × DataW H) → Nat
  | [] => 0
  | x :: r => uptoBulkEntry x + uptoBulkEntries r
def uptoBulkEntry {H : Type} : Lit × DataW H → Nat
  | (.string bytes, d) => bytes.length + uptoBulk d + 1
  | (_, d) => uptoBulk d + 1
 end
def uptoSmall : (H : Type) → List (DataW H) → Bool := fun _ ds => decide (uptoBulkAll ds ≤ 1048576)
def OpenSpec.upto (s : _root_.Go.ChangeSpec) : _root_.Go.OpenSpec := { _root_.Go.OpenSpec.ofChange s with cond := some uptoSmall }

/-- 'micropartlaw11.DeltaExamples', WHERE WHAT IT READS IS OF BULK AT MOST 1048576: true; the input reads as it did. -/
def deltaExamplesUptoRow : OpenClaim := { program := "ytjoohmifbkbpbaa", sum := "b57af0fcc726dd07d309285079141aa17440766bdaf677a17c11fa1b2175cea3", func := "micropart/micropartlaw11.DeltaExamples", spec := "deltaExamples", apart := false, narrowed := true }
def DeltaExamplesUptoSaid : Prop := deltaExamplesUptoRow.holds Try.pinned (OpenSpec.upto deltaExamplesSpec)

/-- 'micropartlaw11.DeltaEncodes', WHERE WHAT IT READS IS OF BULK AT MOST 1048576: true; the input reads as it did. -/
def deltaEncodesUptoRow : OpenClaim := { program := "ytjoohmifbkbpbaa", sum := "b57af0fcc726dd07d309285079141aa17440766bdaf677a17c11fa1b2175cea3", func := "micropart/micropartlaw11.DeltaEncodes", spec := "deltaEncodes", apart := false, narrowed := true }
def DeltaEncodesUptoSaid : Prop := deltaEncodesUptoRow.holds Try.pinned (OpenSpec.upto deltaEncodesSpec)

/-- 'micropartlaw11.DeltaDecodes', WHERE WHAT IT READS IS OF BULK AT MOST 1048576: true; the input reads as it did. -/
def deltaDecodesUptoRow : OpenClaim := { program := "ytjoohmifbkbpbaa", sum := "b57af0fcc726dd07d309285079141aa17440766bdaf677a17c11fa1b2175cea3", func := "micropart/micropartlaw11.DeltaDecodes", spec := "deltaDecodes", apart := false, narrowed := true }
def DeltaDecodesUptoSaid : Prop := deltaDecodesUptoRow.holds Try.pinned (OpenSpec.upto deltaDecodesSpec)

/-- 'micropartlaw11.DeltaMutations', WHERE WHAT IT READS IS OF BULK AT MOST 1048576: true; the input reads as it did. -/
def deltaMutationsUptoRow : OpenClaim := { program := "ytjoohmifbkbpbaa", sum := "b57af0fcc726dd07d309285079141aa17440766bdaf677a17c11fa1b2175cea3", func := "micropart/micropartlaw11.DeltaMutations", spec := "deltaMutations", apart := false, narrowed := true }
def DeltaMutationsUptoSaid : Prop := deltaMutationsUptoRow.holds Try.pinned (OpenSpec.upto deltaMutationsSpec)

/-- 'micropartlaw11.DeltaRoundTrip', WHERE WHAT IT READS IS OF BULK AT MOST 1048576: true; the input reads as it did. -/
def deltaRoundTripUptoRow : OpenClaim := { program := "ytjoohmifbkbpbaa", sum := "b57af0fcc726dd07d309285079141aa17440766bdaf677a17c11fa1b2175cea3", func := "micropart/micropartlaw11.DeltaRoundTrip", spec := "deltaRoundTrip", apart := false, narrowed := true }
def DeltaRoundTripUptoSaid : Prop := deltaRoundTripUptoRow.holds Try.pinned (OpenSpec.upto deltaRoundTripSpec)

/-- 'micropartlaw11.DeltaSteady', WHERE WHAT IT READS IS OF BULK AT MOST 1048576: true; the input reads as it did. -/
def deltaSteadyUptoRow : OpenClaim := { program := "ytjoohmifbkbpbaa", sum := "b57af0fcc726dd07d309285079141aa17440766bdaf677a17c11fa1b2175cea3", func := "micropart/micropartlaw11.DeltaSteady", spec := "deltaSteady", apart := false, narrowed := true }
def DeltaSteadyUptoSaid : Prop := deltaSteadyUptoRow.holds Try.pinned (OpenSpec.upto deltaSteadySpec)

end Rows
end Go.Proofs.Ytjoohmifbkbpbaa
