/-
  No cell of these rows narrows 'for every input' (looked for: loops, veiled, ifaces, maps, wideKeys, modest, calm, conditions, laid).
  DERIVED. THE GIVEN ROWS OF THIS SEAT. 9 by the template 'for every input the law returns true; each argument reads behind the call as it read before'; 0 by the template 'total and deterministic' (their statements: YtgabghgjldbfhaaTotals.lean).
  GIVEN WITH THE SEED: the statements are not yours to turn. If you find one false, say at which input.
  Laid BY PROGRAM, IN A SANDBOX (cutbox-rows.mjs): the forced cells as the released guide's own fill.sh prints them over the translation 75783c0b4c899796… (all of the seat's roots in one cut). By AI agents, Wed Nov 11 2026. No macro, syntax, notation, axiom, sorry.
-/
import Derived.Test.YtgabghgjldbfhaaChecked
import GoSem.Claim
import GoSem.ClaimJoined
import GoSem.ClaimMapViews
import Derived.JoinedTies
import Derived.KernelRfl
namespace Go.Proofs.Ytgabghgjldbfhaa
/- THE CELL 'sum', in the pinned program and in every row, IS THE sha256 OF THE DUMP (.gsa) THAT YtgabghgjldbfhaaProg.lean LOADS. Nothing in Lean hashes anything: it is a label: what it is worth is what the hold of that sum in a sandbox is worth. -/
noncomputable def Try.pinned : Pinned := { name := "ytgabghgjldbfhaa", sum := "75783c0b4c899796926fbd7568505bf44102f91ebef1b24687239df795a40302", checked := Try.checked }
namespace Rows
def none {H : Type} : Left H := { results := [], args := [] }

/-- 'micropartlaw4.DateExamples': WHATEVER THE INPUT: true; the input reads as it did. -/
def dateExamplesSpec : ChangeSpec := { name := "dateExamples", fn := fun _ => fun
  | [] => { results := [.lit (.bool true)], args := [] }
  | _ => none }
def dateExamplesRow : OpenClaim := { program := "ytgabghgjldbfhaa", sum := "75783c0b4c899796926fbd7568505bf44102f91ebef1b24687239df795a40302", func := "micropart/micropartlaw4.DateExamples", spec := "dateExamples", apart := false }
def DateExamplesSaid : Prop := dateExamplesRow.holds Try.pinned (OpenSpec.ofChange dateExamplesSpec)

/-- ITS FALSE NEIGHBOUR: 'it returns false'. Refute it at one input. -/
def dateExamplesWrong : ChangeSpec := { name := "dateExamples", fn := fun _ => fun
  | [] => { results := [.lit (.bool false)], args := [] }
  | _ => none }
def DateExamplesWrongFalsely : Prop := dateExamplesRow.holds Try.pinned (OpenSpec.ofChange dateExamplesWrong)

/-- 'micropartlaw4.DateLeap': WHATEVER THE INPUT: true; the input reads as it did. -/
def dateLeapSpec : ChangeSpec := { name := "dateLeap", fn := fun _ => fun
  | [d] => { results := [.lit (.bool true)], args := [d] }
  | _ => none }
def dateLeapRow : OpenClaim := { program := "ytgabghgjldbfhaa", sum := "75783c0b4c899796926fbd7568505bf44102f91ebef1b24687239df795a40302", func := "micropart/micropartlaw4.DateLeap", spec := "dateLeap", apart := false }
def DateLeapSaid : Prop := dateLeapRow.holds Try.pinned (OpenSpec.ofChange dateLeapSpec)

/-- ITS FALSE NEIGHBOUR: 'it returns false'. Refute it at one input. -/
def dateLeapWrong : ChangeSpec := { name := "dateLeap", fn := fun _ => fun
  | [d] => { results := [.lit (.bool false)], args := [d] }
  | _ => none }
def DateLeapWrongFalsely : Prop := dateLeapRow.holds Try.pinned (OpenSpec.ofChange dateLeapWrong)

/-- 'micropartlaw4.DateDays': WHATEVER THE INPUT: true; the input reads as it did. -/
def dateDaysSpec : ChangeSpec := { name := "dateDays", fn := fun _ => fun
  | [d1, d2, d3] => { results := [.lit (.bool true)], args := [d1, d2, d3] }
  | _ => none }
def dateDaysRow : OpenClaim := { program := "ytgabghgjldbfhaa", sum := "75783c0b4c899796926fbd7568505bf44102f91ebef1b24687239df795a40302", func := "micropart/micropartlaw4.DateDays", spec := "dateDays", apart := false }
def DateDaysSaid : Prop := dateDaysRow.holds Try.pinned (OpenSpec.ofChange dateDaysSpec)

/-- ITS FALSE NEIGHBOUR: 'it returns false'. Refute it at one input. -/
def dateDaysWrong : ChangeSpec := { name := "dateDays", fn := fun _ => fun
  | [d1, d2, d3] => { results := [.lit (.bool false)], args := [d1, d2, d3] }
  | _ => none }
def DateDaysWrongFalsely : Prop := dateDaysRow.holds Try.pinned (OpenSpec.ofChange dateDaysWrong)

/-- 'micropartlaw4.DateCivil': WHATEVER THE INPUT: true; the input reads as it did. -/
def dateCivilSpec : ChangeSpec := { name := "dateCivil", fn := fun _ => fun
  | [d1, d2] => { results := [.lit (.bool true)], args := [d1, d2] }
  | _ => none }
def dateCivilRow : OpenClaim := { program := "ytgabghgjldbfhaa", sum := "75783c0b4c899796926fbd7568505bf44102f91ebef1b24687239df795a40302", func := "micropart/micropartlaw4.DateCivil", spec := "dateCivil", apart := false }
def DateCivilSaid : Prop := dateCivilRow.holds Try.pinned (OpenSpec.ofChange dateCivilSpec)

/-- ITS FALSE NEIGHBOUR: 'it returns false'. Refute it at one input. -/
def dateCivilWrong : ChangeSpec := { name := "dateCivil", fn := fun _ => fun
  | [d1, d2] => { results := [.lit (.bool false)], args := [d1, d2] }
  | _ => none }
def DateCivilWrongFalsely : Prop := dateCivilRow.holds Try.pinned (OpenSpec.ofChange dateCivilWrong)

/-- 'micropartlaw4.DateInverse': WHATEVER THE INPUT: true; the input reads as it did. -/
def dateInverseSpec : ChangeSpec := { name := "dateInverse", fn := fun _ => fun
  | [d] => { results := [.lit (.bool true)], args := [d] }
  | _ => none }
def dateInverseRow : OpenClaim := { program := "ytgabghgjldbfhaa", sum := "75783c0b4c899796926fbd7568505bf44102f91ebef1b24687239df795a40302", func := "micropart/micropartlaw4.DateInverse", spec := "dateInverse", apart := false }
def DateInverseSaid : Prop := dateInverseRow.holds Try.pinned (OpenSpec.ofChange dateInverseSpec)

/-- ITS FALSE NEIGHBOUR: 'it returns false'. Refute it at one input. -/
def dateInverseWrong : ChangeSpec := { name := "dateInverse", fn := fun _ => fun
  | [d] => { results := [.lit (.bool false)], args := [d] }
  | _ => none }
def DateInverseWrongFalsely : Prop := dateInverseRow.holds Try.pinned (OpenSpec.ofChange dateInverseWrong)

/-- 'micropartlaw4.DateNext': WHATEVER THE INPUT: true; the input reads as it did. -/
def dateNextSpec : ChangeSpec := { name := "dateNext", fn := fun _ => fun
  | [d] => { results := [.lit (.bool true)], args := [d] }
  | _ => none }
def dateNextRow : OpenClaim := { program := "ytgabghgjldbfhaa", sum := "75783c0b4c899796926fbd7568505bf44102f91ebef1b24687239df795a40302", func := "micropart/micropartlaw4.DateNext", spec := "dateNext", apart := false }
def DateNextSaid : Prop := dateNextRow.holds Try.pinned (OpenSpec.ofChange dateNextSpec)

/-- ITS FALSE NEIGHBOUR: 'it returns false'. Refute it at one input. -/
def dateNextWrong : ChangeSpec := { name := "dateNext", fn := fun _ => fun
  | [d] => { results := [.lit (.bool false)], args := [d] }
  | _ => none }
def DateNextWrongFalsely : Prop := dateNextRow.holds Try.pinned (OpenSpec.ofChange dateNextWrong)

/-- 'micropartlaw4.DateTexts': WHATEVER THE INPUT: true; the input reads as it did. -/
def dateTextsSpec : ChangeSpec := { name := "dateTexts", fn := fun _ => fun
  | [d1, d2] => { results := [.lit (.bool true)], args := [d1, d2] }
  | _ => none }
def dateTextsRow : OpenClaim := { program := "ytgabghgjldbfhaa", sum := "75783c0b4c899796926fbd7568505bf44102f91ebef1b24687239df795a40302", func := "micropart/micropartlaw4.DateTexts", spec := "dateTexts", apart := false }
def DateTextsSaid : Prop := dateTextsRow.holds Try.pinned (OpenSpec.ofChange dateTextsSpec)

/-- ITS FALSE NEIGHBOUR: 'it returns false'. Refute it at one input. -/
def dateTextsWrong : ChangeSpec := { name := "dateTexts", fn := fun _ => fun
  | [d1, d2] => { results := [.lit (.bool false)], args := [d1, d2] }
  | _ => none }
def DateTextsWrongFalsely : Prop := dateTextsRow.holds Try.pinned (OpenSpec.ofChange dateTextsWrong)

/-- 'micropartlaw4.DateRoundTrip': WHATEVER THE INPUT: true; the input reads as it did. -/
def dateRoundTripSpec : ChangeSpec := { name := "dateRoundTrip", fn := fun _ => fun
  | [d1, d2] => { results := [.lit (.bool true)], args := [d1, d2] }
  | _ => none }
def dateRoundTripRow : OpenClaim := { program := "ytgabghgjldbfhaa", sum := "75783c0b4c899796926fbd7568505bf44102f91ebef1b24687239df795a40302", func := "micropart/micropartlaw4.DateRoundTrip", spec := "dateRoundTrip", apart := false }
def DateRoundTripSaid : Prop := dateRoundTripRow.holds Try.pinned (OpenSpec.ofChange dateRoundTripSpec)

/-- ITS FALSE NEIGHBOUR: 'it returns false'. Refute it at one input. -/
def dateRoundTripWrong : ChangeSpec := { name := "dateRoundTrip", fn := fun _ => fun
  | [d1, d2] => { results := [.lit (.bool false)], args := [d1, d2] }
  | _ => none }
def DateRoundTripWrongFalsely : Prop := dateRoundTripRow.holds Try.pinned (OpenSpec.ofChange dateRoundTripWrong)

/-- 'micropartlaw4.DateRange': WHATEVER THE INPUT: true; the input reads as it did. -/
def dateRangeSpec : ChangeSpec := { name := "dateRange", fn := fun _ => fun
  | [d] => { results := [.lit (.bool true)], args := [d] }
  | _ => none }
def dateRangeRow : OpenClaim := { program := "ytgabghgjldbfhaa", sum := "75783c0b4c899796926fbd7568505bf44102f91ebef1b24687239df795a40302", func := "micropart/micropartlaw4.DateRange", spec := "dateRange", apart := false }
def DateRangeSaid : Prop := dateRangeRow.holds Try.pinned (OpenSpec.ofChange dateRangeSpec)

/-- ITS FALSE NEIGHBOUR: 'it returns false'. Refute it at one input. -/
def dateRangeWrong : ChangeSpec := { name := "dateRange", fn := fun _ => fun
  | [d] => { results := [.lit (.bool false)], args := [d] }
  | _ => none }
def DateRangeWrongFalsely : Prop := dateRangeRow.holds Try.pinned (OpenSpec.ofChange dateRangeWrong)

/- THE SECOND FORM. 'bulk': how many values and letters a reading holds, each counted each time it is reached (what is shared counts as often as it is met; a slice's spare places count too). A statement '..UptoSaid' is the law's where the arguments, and the package variables that the reading takes, are together of bulk at most 1048576: NARROWER than '..Said'. Prove '..Said' where nothing that the law and all that it calls make is longer than what came in: it says more and counts as full. Else prove '..UptoSaid'. A law counts once. -/
mutual
def uptoBulk {H : Type} : DataW H → Nat
  | .lit (.string bytes) => bytes.length + 1
  | .lit _ => 1
  | .nil => 1
  | .ptr d => uptoBulk d + 1
  | .slice elems spare => uptoBulkAll elems + uptoBulkAll spare + 1
  | .agg parts => uptoBulkAll parts + 1
  | .iface _ d => uptoBulk d + 1
  | .map entries => uptoBulkEntries entries + 1
  | .held _ => 1
def uptoBulkAll {H : Type} : List (DataW H) → Nat
  | [] => 0
  | d :: r => uptoBulk d + uptoBulkAll r
def uptoBulkEntries {H : Type} : List (Lit × DataW H) → Nat
  | [] => 0
  | x :: r => uptoBulkEntry x + uptoBulkEntries r
def uptoBulkEntry {H : Type} : Lit × DataW H → Nat
  | (.string bytes, d) => bytes.length + uptoBulk d + 1
  | (_, d) => uptoBulk d + 1
 end
def uptoSmall : (H : Type) → List (DataW H) → Bool := fun _ ds => decide (uptoBulkAll ds ≤ 1048576)
def OpenSpec.upto (s : _root_.Go.ChangeSpec) : _root_.Go.OpenSpec := { _root_.Go.OpenSpec.ofChange s with cond := some uptoSmall }

/-- 'micropartlaw4.DateExamples', WHERE WHAT IT READS IS OF BULK AT MOST 1048576: true; the input reads as it did. -/
def dateExamplesUptoRow : OpenClaim := { program := "ytgabghgjldbfhaa", sum := "75783c0b4c899796926fbd7568505bf44102f91ebef1b24687239df795a40302", func := "micropart/micropartlaw4.DateExamples", spec := "dateExamples", apart := false, narrowed := true }
def DateExamplesUptoSaid : Prop := dateExamplesUptoRow.holds Try.pinned (OpenSpec.upto dateExamplesSpec)

/-- 'micropartlaw4.DateLeap', WHERE WHAT IT READS IS OF BULK AT MOST 1048576: true; the input reads as it did. -/
def dateLeapUptoRow : OpenClaim := { program := "ytgabghgjldbfhaa", sum := "75783c0b4c899796926fbd7568505bf44102f91ebef1b24687239df795a40302", func := "micropart/micropartlaw4.DateLeap", spec := "dateLeap", apart := false, narrowed := true }
def DateLeapUptoSaid : Prop := dateLeapUptoRow.holds Try.pinned (OpenSpec.upto dateLeapSpec)

/-- 'micropartlaw4.DateDays', WHERE WHAT IT READS IS OF BULK AT MOST 1048576: true; the input reads as it did. -/
def dateDaysUptoRow : OpenClaim := { program := "ytgabghgjldbfhaa", sum := "75783c0b4c899796926fbd7568505bf44102f91ebef1b24687239df795a40302", func := "micropart/micropartlaw4.DateDays", spec := "dateDays", apart := false, narrowed := true }
def DateDaysUptoSaid : Prop := dateDaysUptoRow.holds Try.pinned (OpenSpec.upto dateDaysSpec)

/-- 'micropartlaw4.DateCivil', WHERE WHAT IT READS IS OF BULK AT MOST 1048576: true; the input reads as it did. -/
def dateCivilUptoRow : OpenClaim := { program := "ytgabghgjldbfhaa", sum := "75783c0b4c899796926fbd7568505bf44102f91ebef1b24687239df795a40302", func := "micropart/micropartlaw4.DateCivil", spec := "dateCivil", apart := false, narrowed := true }
def DateCivilUptoSaid : Prop := dateCivilUptoRow.holds Try.pinned (OpenSpec.upto dateCivilSpec)

/-- 'micropartlaw4.DateInverse', WHERE WHAT IT READS IS OF BULK AT MOST 1048576: true; the input reads as it did. -/
def dateInverseUptoRow : OpenClaim := { program := "ytgabghgjldbfhaa", sum := "75783c0b4c899796926fbd7568505bf44102f91ebef1b24687239df795a40302", func := "micropart/micropartlaw4.DateInverse", spec := "dateInverse", apart := false, narrowed := true }
def DateInverseUptoSaid : Prop := dateInverseUptoRow.holds Try.pinned (OpenSpec.upto dateInverseSpec)

/-- 'micropartlaw4.DateNext', WHERE WHAT IT READS IS OF BULK AT MOST 1048576: true; the input reads as it did. -/
def dateNextUptoRow : OpenClaim := { program := "ytgabghgjldbfhaa", sum := "75783c0b4c899796926fbd7568505bf44102f91ebef1b24687239df795a40302", func := "micropart/micropartlaw4.DateNext", spec := "dateNext", apart := false, narrowed := true }
def DateNextUptoSaid : Prop := dateNextUptoRow.holds Try.pinned (OpenSpec.upto dateNextSpec)

/-- 'micropartlaw4.DateTexts', WHERE WHAT IT READS IS OF BULK AT MOST 1048576: true; the input reads as it did. -/
def dateTextsUptoRow : OpenClaim := { program := "ytgabghgjldbfhaa", sum := "75783c0b4c899796926fbd7568505bf44102f91ebef1b24687239df795a40302", func := "micropart/micropartlaw4.DateTexts", spec := "dateTexts", apart := false, narrowed := true }
def DateTextsUptoSaid : Prop := dateTextsUptoRow.holds Try.pinned (OpenSpec.upto dateTextsSpec)

/-- 'micropartlaw4.DateRoundTrip', WHERE WHAT IT READS IS OF BULK AT MOST 1048576: true; the input reads as it did. -/
def dateRoundTripUptoRow : OpenClaim := { program := "ytgabghgjldbfhaa", sum := "75783c0b4c899796926fbd7568505bf44102f91ebef1b24687239df795a40302", func := "micropart/micropartlaw4.DateRoundTrip", spec := "dateRoundTrip", apart := false, narrowed := true }
def DateRoundTripUptoSaid : Prop := dateRoundTripUptoRow.holds Try.pinned (OpenSpec.upto dateRoundTripSpec)

/-- 'micropartlaw4.DateRange', WHERE WHAT IT READS IS OF BULK AT MOST 1048576: true; the input reads as it did. -/
def dateRangeUptoRow : OpenClaim := { program := "ytgabghgjldbfhaa", sum := "75783c0b4c899796926fbd7568505bf44102f91ebef1b24687239df795a40302", func := "micropart/micropartlaw4.DateRange", spec := "dateRange", apart := false, narrowed := true }
def DateRangeUptoSaid : Prop := dateRangeUptoRow.holds Try.pinned (OpenSpec.upto dateRangeSpec)

end Rows
end Go.Proofs.Ytgabghgjldbfhaa
