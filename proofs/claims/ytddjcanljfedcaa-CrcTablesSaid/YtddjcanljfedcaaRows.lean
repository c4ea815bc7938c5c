/-
  No cell of these rows narrows 'for every input' (looked for: loops, veiled, ifaces, maps, wideKeys, modest, calm, conditions, laid).
  DERIVED. THE GIVEN ROWS OF THIS SEAT. 6 by the template 'for every input the law returns true; each argument reads behind the call as it read before'; 0 by the template 'total and deterministic' (their statements: YtddjcanljfedcaaTotals.lean).
  GIVEN WITH THE SEED: the statements are not yours to turn. If you find one false, say at which input.
  Laid BY PROGRAM, IN A SANDBOX (cutbox-rows.mjs): the forced cells as the released guide's own fill.sh prints them over the translation a73afbc5ca0a4170… (all of the seat's roots in one cut). By AI agents, Wed Nov 11 2026. No macro, syntax, notation, axiom, sorry.
-/
import Derived.Test.YtddjcanljfedcaaChecked
import GoSem.Claim
import GoSem.ClaimJoined
import GoSem.ClaimMapViews
import Derived.JoinedTies
import Derived.KernelRfl
namespace Go.Proofs.Ytddjcanljfedcaa
/- THE CELL 'sum', in the pinned program and in every row, IS THE sha256 OF THE DUMP (.gsa) THAT YtddjcanljfedcaaProg.lean LOADS. Nothing in Lean hashes anything: it is a label: what it is worth is what the hold of that sum in a sandbox is worth. -/
noncomputable def Try.pinned : Pinned := { name := "ytddjcanljfedcaa", sum := "a73afbc5ca0a4170c497a86c59d69142dede7a4f4279526c1921b1fbf586c9d8", checked := Try.checked }
namespace Rows
def none {H : Type} : Left H := { results := [], args := [] }

/-- 'micropartlaw3.CrcExamples': WHATEVER THE INPUT: true; the input reads as it did. -/
def crcExamplesSpec : ChangeSpec := { name := "crcExamples", fn := fun _ => fun
  | [] => { results := [.lit (.bool true)], args := [] }
  | _ => none }
def crcExamplesRow : OpenClaim := { program := "ytddjcanljfedcaa", sum := "a73afbc5ca0a4170c497a86c59d69142dede7a4f4279526c1921b1fbf586c9d8", func := "micropart/micropartlaw3.CrcExamples", spec := "crcExamples", apart := false }
def CrcExamplesSaid : Prop := crcExamplesRow.holds Try.pinned (OpenSpec.ofChange crcExamplesSpec)

/-- ITS FALSE NEIGHBOUR: 'it returns false'. Refute it at one input. -/
def crcExamplesWrong : ChangeSpec := { name := "crcExamples", fn := fun _ => fun
  | [] => { results := [.lit (.bool false)], args := [] }
  | _ => none }
def CrcExamplesWrongFalsely : Prop := crcExamplesRow.holds Try.pinned (OpenSpec.ofChange crcExamplesWrong)

/-- 'micropartlaw3.CrcTable': WHATEVER THE INPUT: true; the input reads as it did. -/
def crcTableSpec : ChangeSpec := { name := "crcTable", fn := fun _ => fun
  | [] => { results := [.lit (.bool true)], args := [] }
  | _ => none }
def crcTableRow : OpenClaim := { program := "ytddjcanljfedcaa", sum := "a73afbc5ca0a4170c497a86c59d69142dede7a4f4279526c1921b1fbf586c9d8", func := "micropart/micropartlaw3.CrcTable", spec := "crcTable", apart := false }
def CrcTableSaid : Prop := crcTableRow.holds Try.pinned (OpenSpec.ofChange crcTableSpec)

/-- ITS FALSE NEIGHBOUR: 'it returns false'. Refute it at one input. -/
def crcTableWrong : ChangeSpec := { name := "crcTable", fn := fun _ => fun
  | [] => { results := [.lit (.bool false)], args := [] }
  | _ => none }
def CrcTableWrongFalsely : Prop := crcTableRow.holds Try.pinned (OpenSpec.ofChange crcTableWrong)

/-- 'micropartlaw3.CrcSums': WHATEVER THE INPUT: true; the input reads as it did. -/
def crcSumsSpec : ChangeSpec := { name := "crcSums", fn := fun _ => fun
  | [d] => { results := [.lit (.bool true)], args := [d] }
  | _ => none }
def crcSumsRow : OpenClaim := { program := "ytddjcanljfedcaa", sum := "a73afbc5ca0a4170c497a86c59d69142dede7a4f4279526c1921b1fbf586c9d8", func := "micropart/micropartlaw3.CrcSums", spec := "crcSums", apart := false }
def CrcSumsSaid : Prop := crcSumsRow.holds Try.pinned (OpenSpec.ofChange crcSumsSpec)

/-- ITS FALSE NEIGHBOUR: 'it returns false'. Refute it at one input. -/
def crcSumsWrong : ChangeSpec := { name := "crcSums", fn := fun _ => fun
  | [d] => { results := [.lit (.bool false)], args := [d] }
  | _ => none }
def CrcSumsWrongFalsely : Prop := crcSumsRow.holds Try.pinned (OpenSpec.ofChange crcSumsWrong)

/-- 'micropartlaw3.CrcTables': WHATEVER THE INPUT: true; the input reads as it did. -/
def crcTablesSpec : ChangeSpec := { name := "crcTables", fn := fun _ => fun
  | [d1, d2, d3, d4, d5, d6] => { results := [.lit (.bool true)], args := [d1, d2, d3, d4, d5, d6] }
  | _ => none }
def crcTablesRow : OpenClaim := { program := "ytddjcanljfedcaa", sum := "a73afbc5ca0a4170c497a86c59d69142dede7a4f4279526c1921b1fbf586c9d8", func := "micropart/micropartlaw3.CrcTables", spec := "crcTables", apart := false }
def CrcTablesSaid : Prop := crcTablesRow.holds Try.pinned (OpenSpec.ofChange crcTablesSpec)

/-- ITS FALSE NEIGHBOUR: 'it returns false'. Refute it at one input. -/
def crcTablesWrong : ChangeSpec := { name := "crcTables", fn := fun _ => fun
  | [d1, d2, d3, d4, d5, d6] => { results := [.lit (.bool false)], args := [d1, d2, d3, d4, d5, d6] }
  | _ => none }
def CrcTablesWrongFalsely : Prop := crcTablesRow.holds Try.pinned (OpenSpec.ofChange crcTablesWrong)

/-- 'micropartlaw3.CrcDetectsBursts': WHATEVER THE INPUT: true; the input reads as it did. -/
def crcDetectsBurstsSpec : ChangeSpec := { name := "crcDetectsBursts", fn := fun _ => fun
  | [d1, d2, d3, d4, d5, d6] => { results := [.lit (.bool true)], args := [d1, d2, d3, d4, d5, d6] }
  | _ => none }
def crcDetectsBurstsRow : OpenClaim := { program := "ytddjcanljfedcaa", sum := "a73afbc5ca0a4170c497a86c59d69142dede7a4f4279526c1921b1fbf586c9d8", func := "micropart/micropartlaw3.CrcDetectsBursts", spec := "crcDetectsBursts", apart := false }
def CrcDetectsBurstsSaid : Prop := crcDetectsBurstsRow.holds Try.pinned (OpenSpec.ofChange crcDetectsBurstsSpec)

/-- ITS FALSE NEIGHBOUR: 'it returns false'. Refute it at one input. -/
def crcDetectsBurstsWrong : ChangeSpec := { name := "crcDetectsBursts", fn := fun _ => fun
  | [d1, d2, d3, d4, d5, d6] => { results := [.lit (.bool false)], args := [d1, d2, d3, d4, d5, d6] }
  | _ => none }
def CrcDetectsBurstsWrongFalsely : Prop := crcDetectsBurstsRow.holds Try.pinned (OpenSpec.ofChange crcDetectsBurstsWrong)

/-- 'micropartlaw3.CrcKeepsTable': WHATEVER THE INPUT: true; the input reads as it did. -/
def crcKeepsTableSpec : ChangeSpec := { name := "crcKeepsTable", fn := fun _ => fun
  | [d1, d2] => { results := [.lit (.bool true)], args := [d1, d2] }
  | _ => none }
def crcKeepsTableRow : OpenClaim := { program := "ytddjcanljfedcaa", sum := "a73afbc5ca0a4170c497a86c59d69142dede7a4f4279526c1921b1fbf586c9d8", func := "micropart/micropartlaw3.CrcKeepsTable", spec := "crcKeepsTable", apart := false }
def CrcKeepsTableSaid : Prop := crcKeepsTableRow.holds Try.pinned (OpenSpec.ofChange crcKeepsTableSpec)

/-- ITS FALSE NEIGHBOUR: 'it returns false'. Refute it at one input. -/
def crcKeepsTableWrong : ChangeSpec := { name := "crcKeepsTable", fn := fun _ => fun
  | [d1, d2] => { results := [.lit (.bool false)], args := [d1, d2] }
  | _ => none }
def CrcKeepsTableWrongFalsely : Prop := crcKeepsTableRow.holds Try.pinned (OpenSpec.ofChange crcKeepsTableWrong)

/- THE SECOND FORM. 'bulk': how many values and letters a reading holds, each counted each time it is reached (what is shared counts as often as it is met; a slice's spare places count too). A statement '..UptoSaid' is the law's where the arguments, and the package variables that the reading takes, are together of bulk at most 1048576: NARROWER than '..Said'. Prove '..Said' where nothing that the law and all that it calls make is longer than what came in: it says more and counts as full. Else prove '..UptoSaid'. A law counts once. -/
mutual
def uptoBulk {H : Type} : DataW H → Nat
  | .lit (.string bytes) => bytes.length + 1
  | .lit _ => 1
  | .nil => 1
  | .ptr d => uptoBulk d + 1
  | .slice elems spare => uptoBulkAll elems + uptoBulkAll spare + 1
  | .agg parts => uptoBulkAll parts + 1
  | .iface _ d => uptoBulk d + 1
  | .map entries => uptoBulkEntries entries + 1
  | .held _ => 1
def uptoBulkAll {H : Type} : List (DataW H) → Nat
  | [] => 0
  | d :: r => uptoBulk d + uptoBulkAll r
def uptoBulkEntries {H : Type} : List (Lit × DataW H) → Nat
  | [] => 0
  | x :: r => uptoBulkEntry x + uptoBulkEntries r
def uptoBulkEntry {H : Type} : Lit × DataW H → Nat
  | (.string bytes, d) => bytes.length + uptoBulk d + 1
  | (_, d) => uptoBulk d + 1
 end
def uptoSmall : (H : Type) → List (DataW H) → Bool := fun _ ds => decide (uptoBulkAll ds ≤ 1048576)
def OpenSpec.upto (s : _root_.Go.ChangeSpec) : _root_.Go.OpenSpec := { _root_.Go.OpenSpec.ofChange s with cond := some uptoSmall }

/-- 'micropartlaw3.CrcExamples', WHERE WHAT IT READS IS OF BULK AT MOST 1048576: true; the input reads as it did. -/
def crcExamplesUptoRow : OpenClaim := { program := "ytddjcanljfedcaa", sum := "a73afbc5ca0a4170c497a86c59d69142dede7a4f4279526c1921b1fbf586c9d8", func := "micropart/micropartlaw3.CrcExamples", spec := "crcExamples", apart := false, narrowed := true }
def CrcExamplesUptoSaid : Prop := crcExamplesUptoRow.holds Try.pinned (OpenSpec.upto crcExamplesSpec)

/-- 'micropartlaw3.CrcTable', WHERE WHAT IT READS IS OF BULK AT MOST 1048576: true; the input reads as it did. -/
def crcTableUptoRow : OpenClaim := { program := "ytddjcanljfedcaa", sum := "a73afbc5ca0a4170c497a86c59d69142dede7a4f4279526c1921b1fbf586c9d8", func := "micropart/micropartlaw3.CrcTable", spec := "crcTable", apart := false, narrowed := true }
def CrcTableUptoSaid : Prop := crcTableUptoRow.holds Try.pinned (OpenSpec.upto crcTableSpec)

/-- 'micropartlaw3.CrcSums', WHERE WHAT IT READS IS OF BULK AT MOST 1048576: true; the input reads as it did. -/
def crcSumsUptoRow : OpenClaim := { program := "ytddjcanljfedcaa", sum := "a73afbc5ca0a4170c497a86c59d69142dede7a4f4279526c1921b1fbf586c9d8", func := "micropart/micropartlaw3.CrcSums", spec := "crcSums", apart := false, narrowed := true }
def CrcSumsUptoSaid : Prop := crcSumsUptoRow.holds Try.pinned (OpenSpec.upto crcSumsSpec)

/-- 'micropartlaw3.CrcTables', WHERE WHAT IT READS IS OF BULK AT MOST 1048576: true; the input reads as it did. -/
def crcTablesUptoRow : OpenClaim := { program := "ytddjcanljfedcaa", sum := "a73afbc5ca0a4170c497a86c59d69142dede7a4f4279526c1921b1fbf586c9d8", func := "micropart/micropartlaw3.CrcTables", spec := "crcTables", apart := false, narrowed := true }
def CrcTablesUptoSaid : Prop := crcTablesUptoRow.holds Try.pinned (OpenSpec.upto crcTablesSpec)

/-- 'micropartlaw3.CrcDetectsBursts', WHERE WHAT IT READS IS OF BULK AT MOST 1048576: true; the input reads as it did. -/
def crcDetectsBurstsUptoRow : OpenClaim := { program := "ytddjcanljfedcaa", sum := "a73afbc5ca0a4170c497a86c59d69142dede7a4f4279526c1921b1fbf586c9d8", func := "micropart/micropartlaw3.CrcDetectsBursts", spec := "crcDetectsBursts", apart := false, narrowed := true }
def CrcDetectsBurstsUptoSaid : Prop := crcDetectsBurstsUptoRow.holds Try.pinned (OpenSpec.upto crcDetectsBurstsSpec)

/-- 'micropartlaw3.CrcKeepsTable', WHERE WHAT IT READS IS OF BULK AT MOST 1048576: true; the input reads as it did. -/
def crcKeepsTableUptoRow : OpenClaim := { program := "ytddjcanljfedcaa", sum := "a73afbc5ca0a4170c497a86c59d69142dede7a4f4279526c1921b1fbf586c9d8", func := "micropart/micropartlaw3.CrcKeepsTable", spec := "crcKeepsTable", apart := false, narrowed := true }
def CrcKeepsTableUptoSaid : Prop := crcKeepsTableUptoRow.holds Try.pinned (OpenSpec.upto crcKeepsTableSpec)

end Rows
end Go.Proofs.Ytddjcanljfedcaa
