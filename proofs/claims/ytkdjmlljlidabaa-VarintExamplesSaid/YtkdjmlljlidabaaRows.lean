/-
  No cell of these rows narrows 'for every input' (looked for: loops, veiled, ifaces, maps, wideKeys, modest, calm, conditions, laid).
  DERIVED. THE GIVEN ROWS OF THIS SEAT. 8 by the template 'for every input the law returns true; each argument reads behind the call as it read before'; 0 by the template 'total and deterministic' (their statements: YtkdjmlljlidabaaTotals.lean).
  GIVEN WITH THE SEED: the statements are not yours to turn. If you find one false, say at which input.
  Laid BY PROGRAM, IN A SANDBOX (cutbox-rows.mjs): the forced cells as the released guide's own fill.sh prints them over the translation 0478617f187d12d6… (all of the seat's roots in one cut). By AI agents, Wed Nov 11 2026. No macro, syntax, notation, axiom, sorry.
-/
import Derived.Test.YtkdjmlljlidabaaChecked
import GoSem.Claim
import GoSem.ClaimJoined
import GoSem.ClaimMapViews
import Derived.JoinedTies
import Derived.KernelRfl
namespace Go.Proofs.Ytkdjmlljlidabaa
/- THE CELL 'sum', in the pinned program and in every row, IS THE sha256 OF THE DUMP (.gsa) THAT YtkdjmlljlidabaaProg.lean LOADS. Nothing in Lean hashes anything: it is a label: what it is worth is what the hold of that sum in a sandbox is worth. -/
noncomputable def Try.pinned : Pinned := { name := "ytkdjmlljlidabaa", sum := "0478617f187d12d62c2af5861325920a0666682dc6c14e5be8a005012e2e1229", checked := Try.checked }
namespace Rows
def none {H : Type} : Left H := { results := [], args := [] }

/-- 'micropartlaw1.VarintExamples': WHATEVER THE INPUT: true; the input reads as it did. -/
def varintExamplesSpec : ChangeSpec := { name := "varintExamples", fn := fun _ => fun
  | [] => { results := [.lit (.bool true)], args := [] }
  | _ => none }
def varintExamplesRow : OpenClaim := { program := "ytkdjmlljlidabaa", sum := "0478617f187d12d62c2af5861325920a0666682dc6c14e5be8a005012e2e1229", func := "micropart/micropartlaw1.VarintExamples", spec := "varintExamples", apart := false }
def VarintExamplesSaid : Prop := varintExamplesRow.holds Try.pinned (OpenSpec.ofChange varintExamplesSpec)

/-- ITS FALSE NEIGHBOUR: 'it returns false'. Refute it at one input. -/
def varintExamplesWrong : ChangeSpec := { name := "varintExamples", fn := fun _ => fun
  | [] => { results := [.lit (.bool false)], args := [] }
  | _ => none }
def VarintExamplesWrongFalsely : Prop := varintExamplesRow.holds Try.pinned (OpenSpec.ofChange varintExamplesWrong)

/-- 'micropartlaw1.VarintPuts': WHATEVER THE INPUT: true; the input reads as it did. -/
def varintPutsSpec : ChangeSpec := { name := "varintPuts", fn := fun _ => fun
  | [d1, d2] => { results := [.lit (.bool true)], args := [d1, d2] }
  | _ => none }
def varintPutsRow : OpenClaim := { program := "ytkdjmlljlidabaa", sum := "0478617f187d12d62c2af5861325920a0666682dc6c14e5be8a005012e2e1229", func := "micropart/micropartlaw1.VarintPuts", spec := "varintPuts", apart := false }
def VarintPutsSaid : Prop := varintPutsRow.holds Try.pinned (OpenSpec.ofChange varintPutsSpec)

/-- ITS FALSE NEIGHBOUR: 'it returns false'. Refute it at one input. -/
def varintPutsWrong : ChangeSpec := { name := "varintPuts", fn := fun _ => fun
  | [d1, d2] => { results := [.lit (.bool false)], args := [d1, d2] }
  | _ => none }
def VarintPutsWrongFalsely : Prop := varintPutsRow.holds Try.pinned (OpenSpec.ofChange varintPutsWrong)

/-- 'micropartlaw1.VarintGets': WHATEVER THE INPUT: true; the input reads as it did. -/
def varintGetsSpec : ChangeSpec := { name := "varintGets", fn := fun _ => fun
  | [d1, d2, d3] => { results := [.lit (.bool true)], args := [d1, d2, d3] }
  | _ => none }
def varintGetsRow : OpenClaim := { program := "ytkdjmlljlidabaa", sum := "0478617f187d12d62c2af5861325920a0666682dc6c14e5be8a005012e2e1229", func := "micropart/micropartlaw1.VarintGets", spec := "varintGets", apart := false }
def VarintGetsSaid : Prop := varintGetsRow.holds Try.pinned (OpenSpec.ofChange varintGetsSpec)

/-- ITS FALSE NEIGHBOUR: 'it returns false'. Refute it at one input. -/
def varintGetsWrong : ChangeSpec := { name := "varintGets", fn := fun _ => fun
  | [d1, d2, d3] => { results := [.lit (.bool false)], args := [d1, d2, d3] }
  | _ => none }
def VarintGetsWrongFalsely : Prop := varintGetsRow.holds Try.pinned (OpenSpec.ofChange varintGetsWrong)

/-- 'micropartlaw1.VarintRoundTrip': WHATEVER THE INPUT: true; the input reads as it did. -/
def varintRoundTripSpec : ChangeSpec := { name := "varintRoundTrip", fn := fun _ => fun
  | [d1, d2, d3, d4] => { results := [.lit (.bool true)], args := [d1, d2, d3, d4] }
  | _ => none }
def varintRoundTripRow : OpenClaim := { program := "ytkdjmlljlidabaa", sum := "0478617f187d12d62c2af5861325920a0666682dc6c14e5be8a005012e2e1229", func := "micropart/micropartlaw1.VarintRoundTrip", spec := "varintRoundTrip", apart := false }
def VarintRoundTripSaid : Prop := varintRoundTripRow.holds Try.pinned (OpenSpec.ofChange varintRoundTripSpec)

/-- ITS FALSE NEIGHBOUR: 'it returns false'. Refute it at one input. -/
def varintRoundTripWrong : ChangeSpec := { name := "varintRoundTrip", fn := fun _ => fun
  | [d1, d2, d3, d4] => { results := [.lit (.bool false)], args := [d1, d2, d3, d4] }
  | _ => none }
def VarintRoundTripWrongFalsely : Prop := varintRoundTripRow.holds Try.pinned (OpenSpec.ofChange varintRoundTripWrong)

/-- 'micropartlaw1.VarintPrefixes': WHATEVER THE INPUT: true; the input reads as it did. -/
def varintPrefixesSpec : ChangeSpec := { name := "varintPrefixes", fn := fun _ => fun
  | [d1, d2, d3] => { results := [.lit (.bool true)], args := [d1, d2, d3] }
  | _ => none }
def varintPrefixesRow : OpenClaim := { program := "ytkdjmlljlidabaa", sum := "0478617f187d12d62c2af5861325920a0666682dc6c14e5be8a005012e2e1229", func := "micropart/micropartlaw1.VarintPrefixes", spec := "varintPrefixes", apart := false }
def VarintPrefixesSaid : Prop := varintPrefixesRow.holds Try.pinned (OpenSpec.ofChange varintPrefixesSpec)

/-- ITS FALSE NEIGHBOUR: 'it returns false'. Refute it at one input. -/
def varintPrefixesWrong : ChangeSpec := { name := "varintPrefixes", fn := fun _ => fun
  | [d1, d2, d3] => { results := [.lit (.bool false)], args := [d1, d2, d3] }
  | _ => none }
def VarintPrefixesWrongFalsely : Prop := varintPrefixesRow.holds Try.pinned (OpenSpec.ofChange varintPrefixesWrong)

/-- 'micropartlaw1.VarintIsShortest': WHATEVER THE INPUT: true; the input reads as it did. -/
def varintIsShortestSpec : ChangeSpec := { name := "varintIsShortest", fn := fun _ => fun
  | [d1, d2] => { results := [.lit (.bool true)], args := [d1, d2] }
  | _ => none }
def varintIsShortestRow : OpenClaim := { program := "ytkdjmlljlidabaa", sum := "0478617f187d12d62c2af5861325920a0666682dc6c14e5be8a005012e2e1229", func := "micropart/micropartlaw1.VarintIsShortest", spec := "varintIsShortest", apart := false }
def VarintIsShortestSaid : Prop := varintIsShortestRow.holds Try.pinned (OpenSpec.ofChange varintIsShortestSpec)

/-- ITS FALSE NEIGHBOUR: 'it returns false'. Refute it at one input. -/
def varintIsShortestWrong : ChangeSpec := { name := "varintIsShortest", fn := fun _ => fun
  | [d1, d2] => { results := [.lit (.bool false)], args := [d1, d2] }
  | _ => none }
def VarintIsShortestWrongFalsely : Prop := varintIsShortestRow.holds Try.pinned (OpenSpec.ofChange varintIsShortestWrong)

/-- 'micropartlaw1.VarintZigZag': WHATEVER THE INPUT: true; the input reads as it did. -/
def varintZigZagSpec : ChangeSpec := { name := "varintZigZag", fn := fun _ => fun
  | [d1, d2] => { results := [.lit (.bool true)], args := [d1, d2] }
  | _ => none }
def varintZigZagRow : OpenClaim := { program := "ytkdjmlljlidabaa", sum := "0478617f187d12d62c2af5861325920a0666682dc6c14e5be8a005012e2e1229", func := "micropart/micropartlaw1.VarintZigZag", spec := "varintZigZag", apart := false }
def VarintZigZagSaid : Prop := varintZigZagRow.holds Try.pinned (OpenSpec.ofChange varintZigZagSpec)

/-- ITS FALSE NEIGHBOUR: 'it returns false'. Refute it at one input. -/
def varintZigZagWrong : ChangeSpec := { name := "varintZigZag", fn := fun _ => fun
  | [d1, d2] => { results := [.lit (.bool false)], args := [d1, d2] }
  | _ => none }
def VarintZigZagWrongFalsely : Prop := varintZigZagRow.holds Try.pinned (OpenSpec.ofChange varintZigZagWrong)

/-- 'micropartlaw1.VarintOrder': WHATEVER THE INPUT: true; the input reads as it did. -/
def varintOrderSpec : ChangeSpec := { name := "varintOrder", fn := fun _ => fun
  | [d1, d2, d3] => { results := [.lit (.bool true)], args := [d1, d2, d3] }
  | _ => none }
def varintOrderRow : OpenClaim := { program := "ytkdjmlljlidabaa", sum := "0478617f187d12d62c2af5861325920a0666682dc6c14e5be8a005012e2e1229", func := "micropart/micropartlaw1.VarintOrder", spec := "varintOrder", apart := false }
def VarintOrderSaid : Prop := varintOrderRow.holds Try.pinned (OpenSpec.ofChange varintOrderSpec)

/-- ITS FALSE NEIGHBOUR: 'it returns false'. Refute it at one input. -/
def varintOrderWrong : ChangeSpec := { name := "varintOrder", fn := fun _ => fun
  | [d1, d2, d3] => { results := [.lit (.bool false)], args := [d1, d2, d3] }
  | _ => none }
def VarintOrderWrongFalsely : Prop := varintOrderRow.holds Try.pinned (OpenSpec.ofChange varintOrderWrong)

/- THE SECOND FORM. 'bulk': how many values and letters a reading holds, each counted each time it is reached (what is shared counts as often as it is met; a slice's spare places count too). A statement '..UptoSaid' is the law's where the arguments, and the package variables that the reading takes, are together of bulk at most 1048576: NARROWER than '..Said'. Prove '..Said' where nothing that the law and all that it calls make is longer than what came in: it says more and counts as full. Else prove '..UptoSaid'. A law counts once. -/
mutual
def uptoBulk {H : Type} : DataW H → Nat
  | .lit (.string bytes) => bytes.length + 1
  | .lit _ => 1
  | .nil => 1
  | .ptr d => uptoBulk d + 1
  | .slice elems spare => uptoBulkAll elems + uptoBulkAll spare + 1
  | .agg parts => uptoBulkAll parts + 1
  | .iface _ d => uptoBulk d + 1
  | .map entries => uptoBulkEntries entries + 1
  | .held _ => 1
def uptoBulkAll {H : Type} : List (DataW H) → Nat
  | [] => 0
  | d :: r => uptoBulk d + uptoBulkAll r
def uptoBulkEntries {H : Type} : List (Lit × DataW H) → Nat
  | [] => 0
  | x :: r => uptoBulkEntry x + uptoBulkEntries r
def uptoBulkEntry {H : Type} : Lit × DataW H → Nat
  | (.string bytes, d) => bytes.length + uptoBulk d + 1
  | (_, d) => uptoBulk d + 1
 end
def uptoSmall : (H : Type) → List (DataW H) → Bool := fun _ ds => decide (uptoBulkAll ds ≤ 1048576)
def OpenSpec.upto (s : _root_.Go.ChangeSpec) : _root_.Go.OpenSpec := { _root_.Go.OpenSpec.ofChange s with cond := some uptoSmall }

/-- 'micropartlaw1.VarintExamples', WHERE WHAT IT READS IS OF BULK AT MOST 1048576: true; the input reads as it did. -/
def varintExamplesUptoRow : OpenClaim := { program := "ytkdjmlljlidabaa", sum := "0478617f187d12d62c2af5861325920a0666682dc6c14e5be8a005012e2e1229", func := "micropart/micropartlaw1.VarintExamples", spec := "varintExamples", apart := false, narrowed := true }
def VarintExamplesUptoSaid : Prop := varintExamplesUptoRow.holds Try.pinned (OpenSpec.upto varintExamplesSpec)

/-- 'micropartlaw1.VarintPuts', WHERE WHAT IT READS IS OF BULK AT MOST 1048576: true; the input reads as it did. -/
def varintPutsUptoRow : OpenClaim := { program := "ytkdjmlljlidabaa", sum := "0478617f187d12d62c2af5861325920a0666682dc6c14e5be8a005012e2e1229", func := "micropart/micropartlaw1.VarintPuts", spec := "varintPuts", apart := false, narrowed := true }
def VarintPutsUptoSaid : Prop := varintPutsUptoRow.holds Try.pinned (OpenSpec.upto varintPutsSpec)

/-- 'micropartlaw1.VarintGets', WHERE WHAT IT READS IS OF BULK AT MOST 1048576: true; the input reads as it did. -/
def varintGetsUptoRow : OpenClaim := { program := "ytkdjmlljlidabaa", sum := "0478617f187d12d62c2af5861325920a0666682dc6c14e5be8a005012e2e1229", func := "micropart/micropartlaw1.VarintGets", spec := "varintGets", apart := false, narrowed := true }
def VarintGetsUptoSaid : Prop := varintGetsUptoRow.holds Try.pinned (OpenSpec.upto varintGetsSpec)

/-- 'micropartlaw1.VarintRoundTrip', WHERE WHAT IT READS IS OF BULK AT MOST 1048576: true; the input reads as it did. -/
def varintRoundTripUptoRow : OpenClaim := { program := "ytkdjmlljlidabaa", sum := "0478617f187d12d62c2af5861325920a0666682dc6c14e5be8a005012e2e1229", func := "micropart/micropartlaw1.VarintRoundTrip", spec := "varintRoundTrip", apart := false, narrowed := true }
def VarintRoundTripUptoSaid : Prop := varintRoundTripUptoRow.holds Try.pinned (OpenSpec.upto varintRoundTripSpec)

/-- 'micropartlaw1.VarintPrefixes', WHERE WHAT IT READS IS OF BULK AT MOST 1048576: true; the input reads as it did. -/
def varintPrefixesUptoRow : OpenClaim := { program := "ytkdjmlljlidabaa", sum := "0478617f187d12d62c2af5861325920a0666682dc6c14e5be8a005012e2e1229", func := "micropart/micropartlaw1.VarintPrefixes", spec := "varintPrefixes", apart := false, narrowed := true }
def VarintPrefixesUptoSaid : Prop := varintPrefixesUptoRow.holds Try.pinned (OpenSpec.upto varintPrefixesSpec)

/-- 'micropartlaw1.VarintIsShortest', WHERE WHAT IT READS IS OF BULK AT MOST 1048576: true; the input reads as it did. -/
def varintIsShortestUptoRow : OpenClaim := { program := "ytkdjmlljlidabaa", sum := "0478617f187d12d62c2af5861325920a0666682dc6c14e5be8a005012e2e1229", func := "micropart/micropartlaw1.VarintIsShortest", spec := "varintIsShortest", apart := false, narrowed := true }
def VarintIsShortestUptoSaid : Prop := varintIsShortestUptoRow.holds Try.pinned (OpenSpec.upto varintIsShortestSpec)

/-- 'micropartlaw1.VarintZigZag', WHERE WHAT IT READS IS OF BULK AT MOST 1048576: true; the input reads as it did. -/
def varintZigZagUptoRow : OpenClaim := { program := "ytkdjmlljlidabaa", sum := "0478617f187d12d62c2af5861325920a0666682dc6c14e5be8a005012e2e1229", func := "micropart/micropartlaw1.VarintZigZag", spec := "varintZigZag", apart := false, narrowed := true }
def VarintZigZagUptoSaid : Prop := varintZigZagUptoRow.holds Try.pinned (OpenSpec.upto varintZigZagSpec)

/-- 'micropartlaw1.VarintOrder', WHERE WHAT IT READS IS OF BULK AT MOST 1048576: true; the input reads as it did. -/
def varintOrderUptoRow : OpenClaim := { program := "ytkdjmlljlidabaa", sum := "0478617f187d12d62c2af5861325920a0666682dc6c14e5be8a005012e2e1229", func := "micropart/micropartlaw1.VarintOrder", spec := "varintOrder", apart := false, narrowed := true }
def VarintOrderUptoSaid : Prop := varintOrderUptoRow.holds Try.pinned (OpenSpec.upto varintOrderSpec)

end Rows
end Go.Proofs.Ytkdjmlljlidabaa
