/-
  No cell of these rows narrows 'for every input' (looked for: loops, veiled, ifaces, maps, wideKeys, modest, calm, conditions, laid).
  DERIVED. THE GIVEN ROWS OF THIS SEAT. 7 by the template 'for every input the law returns true; each argument reads behind the call as it read before'; 0 by the template 'total and deterministic' (their statements: YtcacmabiebmkjaaTotals.lean).
  GIVEN WITH THE SEED: the statements are not yours to turn. If you find one false, say at which input.
  Laid BY PROGRAM, IN A SANDBOX (cutbox-rows.mjs): the forced cells as the released guide's own fill.sh prints them over the translation c05974ae72f3cc8f… (all of the seat's roots in one cut). By AI agents, Wed Nov 11 2026. No macro, syntax, notation, axiom, sorry.
-/
import Derived.Test.YtcacmabiebmkjaaChecked
import GoSem.Claim
import GoSem.ClaimJoined
import GoSem.ClaimMapViews
import Derived.JoinedTies
import Derived.KernelRfl
namespace Go.Proofs.Ytcacmabiebmkjaa
/- THE CELL 'sum', in the pinned program and in every row, IS THE sha256 OF THE DUMP (.gsa) THAT YtcacmabiebmkjaaProg.lean LOADS. Nothing in Lean hashes anything: it is a label: what it is worth is what the hold of that sum in a sandbox is worth. -/
noncomputable def Try.pinned : Pinned := { name := "ytcacmabiebmkjaa", sum := "c05974ae72f3cc8f7d6be496e35a74cc869802f03df0ab089230654f4a572226", checked := Try.checked }
namespace Rows
def none {H : Type} : Left H := { results := [], args := [] }

/-- 'micropartlaw9.RleExamples': WHATEVER THE INPUT: true; the input reads as it did. -/
def rleExamplesSpec : ChangeSpec := { name := "rleExamples", fn := fun _ => fun
  | [] => { results := [.lit (.bool true)], args := [] }
  | _ => none }
def rleExamplesRow : OpenClaim := { program := "ytcacmabiebmkjaa", sum := "c05974ae72f3cc8f7d6be496e35a74cc869802f03df0ab089230654f4a572226", func := "micropart/micropartlaw9.RleExamples", spec := "rleExamples", apart := false }
def RleExamplesSaid : Prop := rleExamplesRow.holds Try.pinned (OpenSpec.ofChange rleExamplesSpec)

/-- ITS FALSE NEIGHBOUR: 'it returns false'. Refute it at one input. -/
def rleExamplesWrong : ChangeSpec := { name := "rleExamples", fn := fun _ => fun
  | [] => { results := [.lit (.bool false)], args := [] }
  | _ => none }
def RleExamplesWrongFalsely : Prop := rleExamplesRow.holds Try.pinned (OpenSpec.ofChange rleExamplesWrong)

/-- 'micropartlaw9.RleEncodes': WHATEVER THE INPUT: true; the input reads as it did. -/
def rleEncodesSpec : ChangeSpec := { name := "rleEncodes", fn := fun _ => fun
  | [d1, d2] => { results := [.lit (.bool true)], args := [d1, d2] }
  | _ => none }
def rleEncodesRow : OpenClaim := { program := "ytcacmabiebmkjaa", sum := "c05974ae72f3cc8f7d6be496e35a74cc869802f03df0ab089230654f4a572226", func := "micropart/micropartlaw9.RleEncodes", spec := "rleEncodes", apart := false }
def RleEncodesSaid : Prop := rleEncodesRow.holds Try.pinned (OpenSpec.ofChange rleEncodesSpec)

/-- ITS FALSE NEIGHBOUR: 'it returns false'. Refute it at one input. -/
def rleEncodesWrong : ChangeSpec := { name := "rleEncodes", fn := fun _ => fun
  | [d1, d2] => { results := [.lit (.bool false)], args := [d1, d2] }
  | _ => none }
def RleEncodesWrongFalsely : Prop := rleEncodesRow.holds Try.pinned (OpenSpec.ofChange rleEncodesWrong)

/-- 'micropartlaw9.RleDecodes': WHATEVER THE INPUT: true; the input reads as it did. -/
def rleDecodesSpec : ChangeSpec := { name := "rleDecodes", fn := fun _ => fun
  | [d1, d2] => { results := [.lit (.bool true)], args := [d1, d2] }
  | _ => none }
def rleDecodesRow : OpenClaim := { program := "ytcacmabiebmkjaa", sum := "c05974ae72f3cc8f7d6be496e35a74cc869802f03df0ab089230654f4a572226", func := "micropart/micropartlaw9.RleDecodes", spec := "rleDecodes", apart := false }
def RleDecodesSaid : Prop := rleDecodesRow.holds Try.pinned (OpenSpec.ofChange rleDecodesSpec)

/-- ITS FALSE NEIGHBOUR: 'it returns false'. Refute it at one input. -/
def rleDecodesWrong : ChangeSpec := { name := "rleDecodes", fn := fun _ => fun
  | [d1, d2] => { results := [.lit (.bool false)], args := [d1, d2] }
  | _ => none }
def RleDecodesWrongFalsely : Prop := rleDecodesRow.holds Try.pinned (OpenSpec.ofChange rleDecodesWrong)

/-- 'micropartlaw9.RleMutations': WHATEVER THE INPUT: true; the input reads as it did. -/
def rleMutationsSpec : ChangeSpec := { name := "rleMutations", fn := fun _ => fun
  | [d1, d2, d3, d4] => { results := [.lit (.bool true)], args := [d1, d2, d3, d4] }
  | _ => none }
def rleMutationsRow : OpenClaim := { program := "ytcacmabiebmkjaa", sum := "c05974ae72f3cc8f7d6be496e35a74cc869802f03df0ab089230654f4a572226", func := "micropart/micropartlaw9.RleMutations", spec := "rleMutations", apart := false }
def RleMutationsSaid : Prop := rleMutationsRow.holds Try.pinned (OpenSpec.ofChange rleMutationsSpec)

/-- ITS FALSE NEIGHBOUR: 'it returns false'. Refute it at one input. -/
def rleMutationsWrong : ChangeSpec := { name := "rleMutations", fn := fun _ => fun
  | [d1, d2, d3, d4] => { results := [.lit (.bool false)], args := [d1, d2, d3, d4] }
  | _ => none }
def RleMutationsWrongFalsely : Prop := rleMutationsRow.holds Try.pinned (OpenSpec.ofChange rleMutationsWrong)

/-- 'micropartlaw9.RleRoundTrip': WHATEVER THE INPUT: true; the input reads as it did. -/
def rleRoundTripSpec : ChangeSpec := { name := "rleRoundTrip", fn := fun _ => fun
  | [d] => { results := [.lit (.bool true)], args := [d] }
  | _ => none }
def rleRoundTripRow : OpenClaim := { program := "ytcacmabiebmkjaa", sum := "c05974ae72f3cc8f7d6be496e35a74cc869802f03df0ab089230654f4a572226", func := "micropart/micropartlaw9.RleRoundTrip", spec := "rleRoundTrip", apart := false }
def RleRoundTripSaid : Prop := rleRoundTripRow.holds Try.pinned (OpenSpec.ofChange rleRoundTripSpec)

/-- ITS FALSE NEIGHBOUR: 'it returns false'. Refute it at one input. -/
def rleRoundTripWrong : ChangeSpec := { name := "rleRoundTrip", fn := fun _ => fun
  | [d] => { results := [.lit (.bool false)], args := [d] }
  | _ => none }
def RleRoundTripWrongFalsely : Prop := rleRoundTripRow.holds Try.pinned (OpenSpec.ofChange rleRoundTripWrong)

/-- 'micropartlaw9.RleIsUnique': WHATEVER THE INPUT: true; the input reads as it did. -/
def rleIsUniqueSpec : ChangeSpec := { name := "rleIsUnique", fn := fun _ => fun
  | [d1, d2, d3] => { results := [.lit (.bool true)], args := [d1, d2, d3] }
  | _ => none }
def rleIsUniqueRow : OpenClaim := { program := "ytcacmabiebmkjaa", sum := "c05974ae72f3cc8f7d6be496e35a74cc869802f03df0ab089230654f4a572226", func := "micropart/micropartlaw9.RleIsUnique", spec := "rleIsUnique", apart := false }
def RleIsUniqueSaid : Prop := rleIsUniqueRow.holds Try.pinned (OpenSpec.ofChange rleIsUniqueSpec)

/-- ITS FALSE NEIGHBOUR: 'it returns false'. Refute it at one input. -/
def rleIsUniqueWrong : ChangeSpec := { name := "rleIsUnique", fn := fun _ => fun
  | [d1, d2, d3] => { results := [.lit (.bool false)], args := [d1, d2, d3] }
  | _ => none }
def RleIsUniqueWrongFalsely : Prop := rleIsUniqueRow.holds Try.pinned (OpenSpec.ofChange rleIsUniqueWrong)

/-- 'micropartlaw9.RleSize': WHATEVER THE INPUT: true; the input reads as it did. -/
def rleSizeSpec : ChangeSpec := { name := "rleSize", fn := fun _ => fun
  | [d] => { results := [.lit (.bool true)], args := [d] }
  | _ => none }
def rleSizeRow : OpenClaim := { program := "ytcacmabiebmkjaa", sum := "c05974ae72f3cc8f7d6be496e35a74cc869802f03df0ab089230654f4a572226", func := "micropart/micropartlaw9.RleSize", spec := "rleSize", apart := false }
def RleSizeSaid : Prop := rleSizeRow.holds Try.pinned (OpenSpec.ofChange rleSizeSpec)

/-- ITS FALSE NEIGHBOUR: 'it returns false'. Refute it at one input. -/
def rleSizeWrong : ChangeSpec := { name := "rleSize", fn := fun _ => fun
  | [d] => { results := [.lit (.bool false)], args := [d] }
  | _ => none }
def RleSizeWrongFalsely : Prop := rleSizeRow.holds Try.pinned (OpenSpec.ofChange rleSizeWrong)

/- THE SECOND FORM. 'bulk': how many values and letters a reading holds, each counted each time it is reached (what is shared counts as often as it is met; a slice's spare places count too). A statement '..UptoSaid' is the law's where the arguments, and the package variables that the reading takes, are together of bulk at most 1048576: NARROWER than '..Said'. Prove '..Said' where nothing that the law and all that it calls make is longer than what came in: it says more and counts as full. Else prove '..UptoSaid'. A law counts once. -/
mutual
def uptoBulk {H : Type} : DataW H → Nat
  | .lit (.string bytes) => bytes.length + 1
  | .lit _ => 1
  | .nil => 1
  | .ptr d => uptoBulk d + 1
  | .slice elems spare => uptoBulkAll elems + uptoBulkAll spare + 1
  | .agg parts => uptoBulkAll parts + 1
  | .iface _ d => uptoBulk d + 1
  | .map entries => uptoBulkEntries entries + 1
  | .held _ => 1
def uptoBulkAll {H : Type} : List (DataW H) → Nat
  | [] => 0
  | d :: r => uptoBulk d + uptoBulkAll r
def uptoBulkEntries {H : Type} : List (Lit × DataW H) → Nat
  | [] => 0
  | x :: r => uptoBulkEntry x + uptoBulkEntries r
def uptoBulkEntry {H : Type} : Lit × DataW H → Nat
  | (.string bytes, d) => bytes.length + uptoBulk d + 1
  | (_, d) => uptoBulk d + 1
 end
def uptoSmall : (H : Type) → List (DataW H) → Bool := fun _ ds => decide (uptoBulkAll ds ≤ 1048576)
def OpenSpec.upto (s : _root_.Go.ChangeSpec) : _root_.Go.OpenSpec := { _root_.Go.OpenSpec.ofChange s with cond := some uptoSmall }

/-- 'micropartlaw9.RleExamples', WHERE WHAT IT READS IS OF BULK AT MOST 1048576: true; the input reads as it did. -/
def rleExamplesUptoRow : OpenClaim := { program := "ytcacmabiebmkjaa", sum := "c05974ae72f3cc8f7d6be496e35a74cc869802f03df0ab089230654f4a572226", func := "micropart/micropartlaw9.RleExamples", spec := "rleExamples", apart := false, narrowed := true }
def RleExamplesUptoSaid : Prop := rleExamplesUptoRow.holds Try.pinned (OpenSpec.upto rleExamplesSpec)

/-- 'micropartlaw9.RleEncodes', WHERE WHAT IT READS IS OF BULK AT MOST 1048576: true; the input reads as it did. -/
def rleEncodesUptoRow : OpenClaim := { program := "ytcacmabiebmkjaa", sum := "c05974ae72f3cc8f7d6be496e35a74cc869802f03df0ab089230654f4a572226", func := "micropart/micropartlaw9.RleEncodes", spec := "rleEncodes", apart := false, narrowed := true }
def RleEncodesUptoSaid : Prop := rleEncodesUptoRow.holds Try.pinned (OpenSpec.upto rleEncodesSpec)

/-- 'micropartlaw9.RleDecodes', WHERE WHAT IT READS IS OF BULK AT MOST 1048576: true; the input reads as it did. -/
def rleDecodesUptoRow : OpenClaim := { program := "ytcacmabiebmkjaa", sum := "c05974ae72f3cc8f7d6be496e35a74cc869802f03df0ab089230654f4a572226", func := "micropart/micropartlaw9.RleDecodes", spec := "rleDecodes", apart := false, narrowed := true }
def RleDecodesUptoSaid : Prop := rleDecodesUptoRow.holds Try.pinned (OpenSpec.upto rleDecodesSpec)

/-- 'micropartlaw9.RleMutations', WHERE WHAT IT READS IS OF BULK AT MOST 1048576: true; the input reads as it did. -/
def rleMutationsUptoRow : OpenClaim := { program := "ytcacmabiebmkjaa", sum := "c05974ae72f3cc8f7d6be496e35a74cc869802f03df0ab089230654f4a572226", func := "micropart/micropartlaw9.RleMutations", spec := "rleMutations", apart := false, narrowed := true }
def RleMutationsUptoSaid : Prop := rleMutationsUptoRow.holds Try.pinned (OpenSpec.upto rleMutationsSpec)

/-- 'micropartlaw9.RleRoundTrip', WHERE WHAT IT READS IS OF BULK AT MOST 1048576: true; the input reads as it did. -/
def rleRoundTripUptoRow : OpenClaim := { program := "ytcacmabiebmkjaa", sum := "c05974ae72f3cc8f7d6be496e35a74cc869802f03df0ab089230654f4a572226", func := "micropart/micropartlaw9.RleRoundTrip", spec := "rleRoundTrip", apart := false, narrowed := true }
def RleRoundTripUptoSaid : Prop := rleRoundTripUptoRow.holds Try.pinned (OpenSpec.upto rleRoundTripSpec)

/-- 'micropartlaw9.RleIsUnique', WHERE WHAT IT READS IS OF BULK AT MOST 1048576: true; the input reads as it did. -/
def rleIsUniqueUptoRow : OpenClaim := { program := "ytcacmabiebmkjaa", sum := "c05974ae72f3cc8f7d6be496e35a74cc869802f03df0ab089230654f4a572226", func := "micropart/micropartlaw9.RleIsUnique", spec := "rleIsUnique", apart := false, narrowed := true }
def RleIsUniqueUptoSaid : Prop := rleIsUniqueUptoRow.holds Try.pinned (OpenSpec.upto rleIsUniqueSpec)

/-- 'micropartlaw9.RleSize', WHERE WHAT IT READS IS OF BULK AT MOST 1048576: true; the input reads as it did. -/
def rleSizeUptoRow : OpenClaim := { program := "ytcacmabiebmkjaa", sum := "c05974ae72f3cc8f7d6be496e35a74cc869802f03df0ab089230654f4a572226", func := "micropart/micropartlaw9.RleSize", spec := "rleSize", apart := false, narrowed := true }
def RleSizeUptoSaid : Prop := rleSizeUptoRow.holds Try.pinned (OpenSpec.upto rleSizeSpec)

end Rows
end Go.Proofs.Ytcacmabiebmkjaa
