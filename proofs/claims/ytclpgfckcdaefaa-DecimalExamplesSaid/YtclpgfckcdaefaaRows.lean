/-
  No cell of these rows narrows 'for every input' (looked for: loops, veiled, ifaces, maps, wideKeys, modest, calm, conditions, laid).
  DERIVED. THE GIVEN ROWS OF THIS SEAT. 7 by the template 'for every input the law returns true; each argument reads behind the call as it read before'; 0 by the template 'total and deterministic' (their statements: YtclpgfckcdaefaaTotals.lean).
  GIVEN WITH THE SEED: the statements are not yours to turn. If you find one false, say at which input.
  Laid BY PROGRAM, IN A SANDBOX (cutbox-rows.mjs): the forced cells as the released guide's own fill.sh prints them over the translation 9c1223ad1bfbba79… (all of the seat's roots in one cut). By AI agents, Wed Nov 11 2026. No macro, syntax, notation, axiom, sorry.
-/
import Derived.Test.YtclpgfckcdaefaaChecked
import GoSem.Claim
import GoSem.ClaimJoined
import GoSem.ClaimMapViews
import Derived.JoinedTies
import Derived.KernelRfl
namespace Go.Proofs.Ytclpgfckcdaefaa
/- THE CELL 'sum', in the pinned program and in every row, IS THE sha256 OF THE DUMP (.gsa) THAT YtclpgfckcdaefaaProg.lean LOADS. Nothing in Lean hashes anything: it is a label: what it is worth is what the hold of that sum in a sandbox is worth. -/
noncomputable def Try.pinned : Pinned := { name := "ytclpgfckcdaefaa", sum := "9c1223ad1bfbba796963957321bfe7c9e3cdd48abb073dd6281fbb384b026561", checked := Try.checked }
namespace Rows
def none {H : Type} : Left H := { results := [], args := [] }

/-- 'micropartlaw5.DecimalExamples': WHATEVER THE INPUT: true; the input reads as it did. -/
def decimalExamplesSpec : ChangeSpec := { name := "decimalExamples", fn := fun _ => fun
  | [] => { results := [.lit (.bool true)], args := [] }
  | _ => none }
def decimalExamplesRow : OpenClaim := { program := "ytclpgfckcdaefaa", sum := "9c1223ad1bfbba796963957321bfe7c9e3cdd48abb073dd6281fbb384b026561", func := "micropart/micropartlaw5.DecimalExamples", spec := "decimalExamples", apart := false }
def DecimalExamplesSaid : Prop := decimalExamplesRow.holds Try.pinned (OpenSpec.ofChange decimalExamplesSpec)

/-- ITS FALSE NEIGHBOUR: 'it returns false'. Refute it at one input. -/
def decimalExamplesWrong : ChangeSpec := { name := "decimalExamples", fn := fun _ => fun
  | [] => { results := [.lit (.bool false)], args := [] }
  | _ => none }
def DecimalExamplesWrongFalsely : Prop := decimalExamplesRow.holds Try.pinned (OpenSpec.ofChange decimalExamplesWrong)

/-- 'micropartlaw5.DecimalFormats': WHATEVER THE INPUT: true; the input reads as it did. -/
def decimalFormatsSpec : ChangeSpec := { name := "decimalFormats", fn := fun _ => fun
  | [d1, d2, d3] => { results := [.lit (.bool true)], args := [d1, d2, d3] }
  | _ => none }
def decimalFormatsRow : OpenClaim := { program := "ytclpgfckcdaefaa", sum := "9c1223ad1bfbba796963957321bfe7c9e3cdd48abb073dd6281fbb384b026561", func := "micropart/micropartlaw5.DecimalFormats", spec := "decimalFormats", apart := false }
def DecimalFormatsSaid : Prop := decimalFormatsRow.holds Try.pinned (OpenSpec.ofChange decimalFormatsSpec)

/-- ITS FALSE NEIGHBOUR: 'it returns false'. Refute it at one input. -/
def decimalFormatsWrong : ChangeSpec := { name := "decimalFormats", fn := fun _ => fun
  | [d1, d2, d3] => { results := [.lit (.bool false)], args := [d1, d2, d3] }
  | _ => none }
def DecimalFormatsWrongFalsely : Prop := decimalFormatsRow.holds Try.pinned (OpenSpec.ofChange decimalFormatsWrong)

/-- 'micropartlaw5.DecimalParses': WHATEVER THE INPUT: true; the input reads as it did. -/
def decimalParsesSpec : ChangeSpec := { name := "decimalParses", fn := fun _ => fun
  | [d1, d2, d3] => { results := [.lit (.bool true)], args := [d1, d2, d3] }
  | _ => none }
def decimalParsesRow : OpenClaim := { program := "ytclpgfckcdaefaa", sum := "9c1223ad1bfbba796963957321bfe7c9e3cdd48abb073dd6281fbb384b026561", func := "micropart/micropartlaw5.DecimalParses", spec := "decimalParses", apart := false }
def DecimalParsesSaid : Prop := decimalParsesRow.holds Try.pinned (OpenSpec.ofChange decimalParsesSpec)

/-- ITS FALSE NEIGHBOUR: 'it returns false'. Refute it at one input. -/
def decimalParsesWrong : ChangeSpec := { name := "decimalParses", fn := fun _ => fun
  | [d1, d2, d3] => { results := [.lit (.bool false)], args := [d1, d2, d3] }
  | _ => none }
def DecimalParsesWrongFalsely : Prop := decimalParsesRow.holds Try.pinned (OpenSpec.ofChange decimalParsesWrong)

/-- 'micropartlaw5.DecimalRoundTrip': WHATEVER THE INPUT: true; the input reads as it did. -/
def decimalRoundTripSpec : ChangeSpec := { name := "decimalRoundTrip", fn := fun _ => fun
  | [d1, d2, d3] => { results := [.lit (.bool true)], args := [d1, d2, d3] }
  | _ => none }
def decimalRoundTripRow : OpenClaim := { program := "ytclpgfckcdaefaa", sum := "9c1223ad1bfbba796963957321bfe7c9e3cdd48abb073dd6281fbb384b026561", func := "micropart/micropartlaw5.DecimalRoundTrip", spec := "decimalRoundTrip", apart := false }
def DecimalRoundTripSaid : Prop := decimalRoundTripRow.holds Try.pinned (OpenSpec.ofChange decimalRoundTripSpec)

/-- ITS FALSE NEIGHBOUR: 'it returns false'. Refute it at one input. -/
def decimalRoundTripWrong : ChangeSpec := { name := "decimalRoundTrip", fn := fun _ => fun
  | [d1, d2, d3] => { results := [.lit (.bool false)], args := [d1, d2, d3] }
  | _ => none }
def DecimalRoundTripWrongFalsely : Prop := decimalRoundTripRow.holds Try.pinned (OpenSpec.ofChange decimalRoundTripWrong)

/-- 'micropartlaw5.DecimalRescales': WHATEVER THE INPUT: true; the input reads as it did. -/
def decimalRescalesSpec : ChangeSpec := { name := "decimalRescales", fn := fun _ => fun
  | [d1, d2, d3, d4] => { results := [.lit (.bool true)], args := [d1, d2, d3, d4] }
  | _ => none }
def decimalRescalesRow : OpenClaim := { program := "ytclpgfckcdaefaa", sum := "9c1223ad1bfbba796963957321bfe7c9e3cdd48abb073dd6281fbb384b026561", func := "micropart/micropartlaw5.DecimalRescales", spec := "decimalRescales", apart := false }
def DecimalRescalesSaid : Prop := decimalRescalesRow.holds Try.pinned (OpenSpec.ofChange decimalRescalesSpec)

/-- ITS FALSE NEIGHBOUR: 'it returns false'. Refute it at one input. -/
def decimalRescalesWrong : ChangeSpec := { name := "decimalRescales", fn := fun _ => fun
  | [d1, d2, d3, d4] => { results := [.lit (.bool false)], args := [d1, d2, d3, d4] }
  | _ => none }
def DecimalRescalesWrongFalsely : Prop := decimalRescalesRow.holds Try.pinned (OpenSpec.ofChange decimalRescalesWrong)

/-- 'micropartlaw5.DecimalRescaleBack': WHATEVER THE INPUT: true; the input reads as it did. -/
def decimalRescaleBackSpec : ChangeSpec := { name := "decimalRescaleBack", fn := fun _ => fun
  | [d1, d2, d3, d4] => { results := [.lit (.bool true)], args := [d1, d2, d3, d4] }
  | _ => none }
def decimalRescaleBackRow : OpenClaim := { program := "ytclpgfckcdaefaa", sum := "9c1223ad1bfbba796963957321bfe7c9e3cdd48abb073dd6281fbb384b026561", func := "micropart/micropartlaw5.DecimalRescaleBack", spec := "decimalRescaleBack", apart := false }
def DecimalRescaleBackSaid : Prop := decimalRescaleBackRow.holds Try.pinned (OpenSpec.ofChange decimalRescaleBackSpec)

/-- ITS FALSE NEIGHBOUR: 'it returns false'. Refute it at one input. -/
def decimalRescaleBackWrong : ChangeSpec := { name := "decimalRescaleBack", fn := fun _ => fun
  | [d1, d2, d3, d4] => { results := [.lit (.bool false)], args := [d1, d2, d3, d4] }
  | _ => none }
def DecimalRescaleBackWrongFalsely : Prop := decimalRescaleBackRow.holds Try.pinned (OpenSpec.ofChange decimalRescaleBackWrong)

/-- 'micropartlaw5.DecimalShortTexts': WHATEVER THE INPUT: true; the input reads as it did. -/
def decimalShortTextsSpec : ChangeSpec := { name := "decimalShortTexts", fn := fun _ => fun
  | [d1, d2, d3, d4] => { results := [.lit (.bool true)], args := [d1, d2, d3, d4] }
  | _ => none }
def decimalShortTextsRow : OpenClaim := { program := "ytclpgfckcdaefaa", sum := "9c1223ad1bfbba796963957321bfe7c9e3cdd48abb073dd6281fbb384b026561", func := "micropart/micropartlaw5.DecimalShortTexts", spec := "decimalShortTexts", apart := false }
def DecimalShortTextsSaid : Prop := decimalShortTextsRow.holds Try.pinned (OpenSpec.ofChange decimalShortTextsSpec)

/-- ITS FALSE NEIGHBOUR: 'it returns false'. Refute it at one input. -/
def decimalShortTextsWrong : ChangeSpec := { name := "decimalShortTexts", fn := fun _ => fun
  | [d1, d2, d3, d4] => { results := [.lit (.bool false)], args := [d1, d2, d3, d4] }
  | _ => none }
def DecimalShortTextsWrongFalsely : Prop := decimalShortTextsRow.holds Try.pinned (OpenSpec.ofChange decimalShortTextsWrong)

/- THE SECOND FORM. 'bulk': how many values and letters a reading holds, each counted each time it is reached (what is shared counts as often as it is met; a slice's spare places count too). A statement '..UptoSaid' is the law's where the arguments, and the package variables that the reading takes, are together of bulk at most 1048576: NARROWER than '..Said'. Prove '..Said' where nothing that the law and all that it calls make is longer than what came in: it says more and counts as full. Else prove '..UptoSaid'. A law counts once. -/
mutual
def uptoBulk {H : Type} : DataW H → Nat
  | .lit (.string bytes) => bytes.length + 1
  | .lit _ => 1
  | .nil => 1
  | .ptr d => uptoBulk d + 1
  | .slice elems spare => uptoBulkAll elems + uptoBulkAll spare + 1
  | .agg parts => uptoBulkAll parts + 1
  | .iface _ d => uptoBulk d + 1
  | .map entries => uptoBulkEntries entries + 1
  | .held _ => 1
def uptoBulkAll {H : Type} : List (DataW H) → Nat
  | [] => 0
  | d :: r => uptoBulk d + uptoBulkAll r
def uptoBulkEntries {H : Type} : List (Lit × DataW H) → Nat
  | [] => 0
  | x :: r => uptoBulkEntry x + uptoBulkEntries r
def uptoBulkEntry {H : Type} : Lit × DataW H → Nat
  | (.string bytes, d) => bytes.length + uptoBulk d + 1
  | (_, d) => uptoBulk d + 1
 end
def uptoSmall : (H : Type) → List (DataW H) → Bool := fun _ ds => decide (uptoBulkAll ds ≤ 1048576)
def OpenSpec.upto (s : _root_.Go.ChangeSpec) : _root_.Go.OpenSpec := { _root_.Go.OpenSpec.ofChange s with cond := some uptoSmall }

/-- 'micropartlaw5.DecimalExamples', WHERE WHAT IT READS IS OF BULK AT MOST 1048576: true; the input reads as it did. -/
def decimalExamplesUptoRow : OpenClaim := { program := "ytclpgfckcdaefaa", sum := "9c1223ad1bfbba796963957321bfe7c9e3cdd48abb073dd6281fbb384b026561", func := "micropart/micropartlaw5.DecimalExamples", spec := "decimalExamples", apart := false, narrowed := true }
def DecimalExamplesUptoSaid : Prop := decimalExamplesUptoRow.holds Try.pinned (OpenSpec.upto decimalExamplesSpec)

/-- 'micropartlaw5.DecimalFormats', WHERE WHAT IT READS IS OF BULK AT MOST 1048576: true; the input reads as it did. -/
def decimalFormatsUptoRow : OpenClaim := { program := "ytclpgfckcdaefaa", sum := "9c1223ad1bfbba796963957321bfe7c9e3cdd48abb073dd6281fbb384b026561", func := "micropart/micropartlaw5.DecimalFormats", spec := "decimalFormats", apart := false, narrowed := true }
def DecimalFormatsUptoSaid : Prop := decimalFormatsUptoRow.holds Try.pinned (OpenSpec.upto decimalFormatsSpec)

/-- 'micropartlaw5.DecimalParses', WHERE WHAT IT READS IS OF BULK AT MOST 1048576: true; the input reads as it did. -/
def decimalParsesUptoRow : OpenClaim := { program := "ytclpgfckcdaefaa", sum := "9c1223ad1bfbba796963957321bfe7c9e3cdd48abb073dd6281fbb384b026561", func := "micropart/micropartlaw5.DecimalParses", spec := "decimalParses", apart := false, narrowed := true }
def DecimalParsesUptoSaid : Prop := decimalParsesUptoRow.holds Try.pinned (OpenSpec.upto decimalParsesSpec)

/-- 'micropartlaw5.DecimalRoundTrip', WHERE WHAT IT READS IS OF BULK AT MOST 1048576: true; the input reads as it did. -/
def decimalRoundTripUptoRow : OpenClaim := { program := "ytclpgfckcdaefaa", sum := "9c1223ad1bfbba796963957321bfe7c9e3cdd48abb073dd6281fbb384b026561", func := "micropart/micropartlaw5.DecimalRoundTrip", spec := "decimalRoundTrip", apart := false, narrowed := true }
def DecimalRoundTripUptoSaid : Prop := decimalRoundTripUptoRow.holds Try.pinned (OpenSpec.upto decimalRoundTripSpec)

/-- 'micropartlaw5.DecimalRescales', WHERE WHAT IT READS IS OF BULK AT MOST 1048576: true; the input reads as it did. -/
def decimalRescalesUptoRow : OpenClaim := { program := "ytclpgfckcdaefaa", sum := "9c1223ad1bfbba796963957321bfe7c9e3cdd48abb073dd6281fbb384b026561", func := "micropart/micropartlaw5.DecimalRescales", spec := "decimalRescales", apart := false, narrowed := true }
def DecimalRescalesUptoSaid : Prop := decimalRescalesUptoRow.holds Try.pinned (OpenSpec.upto decimalRescalesSpec)

/-- 'micropartlaw5.DecimalRescaleBack', WHERE WHAT IT READS IS OF BULK AT MOST 1048576: true; the input reads as it did. -/
def decimalRescaleBackUptoRow : OpenClaim := { program := "ytclpgfckcdaefaa", sum := "9c1223ad1bfbba796963957321bfe7c9e3cdd48abb073dd6281fbb384b026561", func := "micropart/micropartlaw5.DecimalRescaleBack", spec := "decimalRescaleBack", apart := false, narrowed := true }
def DecimalRescaleBackUptoSaid : Prop := decimalRescaleBackUptoRow.holds Try.pinned (OpenSpec.upto decimalRescaleBackSpec)

/-- 'micropartlaw5.DecimalShortTexts', WHERE WHAT IT READS IS OF BULK AT MOST 1048576: true; the input reads as it did. -/
def decimalShortTextsUptoRow : OpenClaim := { program := "ytclpgfckcdaefaa", sum := "9c1223ad1bfbba796963957321bfe7c9e3cdd48abb073dd6281fbb384b026561", func := "micropart/micropartlaw5.DecimalShortTexts", spec := "decimalShortTexts", apart := false, narrowed := true }
def DecimalShortTextsUptoSaid : Prop := decimalShortTextsUptoRow.holds Try.pinned (OpenSpec.upto decimalShortTextsSpec)

end Rows
end Go.Proofs.Ytclpgfckcdaefaa
