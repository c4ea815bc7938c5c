/-
  No cell of these rows narrows 'for every input' (looked for: loops, veiled, ifaces, maps, wideKeys, modest, calm, conditions, laid).
  DERIVED. THE GIVEN ROWS OF THIS SEAT. 7 by the template 'for every input the law returns true; each argument reads behind the call as it read before'; 0 by the template 'total and deterministic' (their statements: YthohmngckpjlbaaTotals.lean).
  GIVEN WITH THE SEED: the statements are not yours to turn. If you find one false, say at which input.
  Laid BY PROGRAM, IN A SANDBOX (cutbox-rows.mjs): the forced cells as the released guide's own fill.sh prints them over the translation 8a339fa1600bdb40… (all of the seat's roots in one cut). By AI agents, Wed Nov 11 2026. No macro, syntax, notation, axiom, sorry.
-/
import Derived.Test.YthohmngckpjlbaaChecked
import GoSem.Claim
import GoSem.ClaimJoined
import GoSem.ClaimMapViews
import Derived.JoinedTies
import Derived.KernelRfl
namespace Go.Proofs.Ythohmngckpjlbaa
/- THE CELL 'sum', in the pinned program and in every row, IS THE sha256 OF THE DUMP (.gsa) THAT YthohmngckpjlbaaProg.lean LOADS. Nothing in Lean hashes anything: it is a label: what it is worth is what the hold of that sum in a sandbox is worth. -/
noncomputable def Try.pinned : Pinned := { name := "ythohmngckpjlbaa", sum := "8a339fa1600bdb40cc56914536dc6326b63aaee5cff9442eaec92213c2fdd6a1", checked := Try.checked }
namespace Rows
def none {H : Type} : Left H := { results := [], args := [] }

/-- 'micropartlaw14.ZoneExamples': WHATEVER THE INPUT: true; the input reads as it did. -/
def zoneExamplesSpec : ChangeSpec := { name := "zoneExamples", fn := fun _ => fun
  | [] => { results := [.lit (.bool true)], args := [] }
  | _ => none }
def zoneExamplesRow : OpenClaim := { program := "ythohmngckpjlbaa", sum := "8a339fa1600bdb40cc56914536dc6326b63aaee5cff9442eaec92213c2fdd6a1", func := "micropart/micropartlaw14.ZoneExamples", spec := "zoneExamples", apart := false }
def ZoneExamplesSaid : Prop := zoneExamplesRow.holds Try.pinned (OpenSpec.ofChange zoneExamplesSpec)

/-- ITS FALSE NEIGHBOUR: 'it returns false'. Refute it at one input. -/
def zoneExamplesWrong : ChangeSpec := { name := "zoneExamples", fn := fun _ => fun
  | [] => { results := [.lit (.bool false)], args := [] }
  | _ => none }
def ZoneExamplesWrongFalsely : Prop := zoneExamplesRow.holds Try.pinned (OpenSpec.ofChange zoneExamplesWrong)

/-- 'micropartlaw14.ZoneOfs': WHATEVER THE INPUT: true; the input reads as it did. -/
def zoneOfsSpec : ChangeSpec := { name := "zoneOfs", fn := fun _ => fun
  | [d1, d2, d3, d4, d5] => { results := [.lit (.bool true)], args := [d1, d2, d3, d4, d5] }
  | _ => none }
def zoneOfsRow : OpenClaim := { program := "ythohmngckpjlbaa", sum := "8a339fa1600bdb40cc56914536dc6326b63aaee5cff9442eaec92213c2fdd6a1", func := "micropart/micropartlaw14.ZoneOfs", spec := "zoneOfs", apart := false }
def ZoneOfsSaid : Prop := zoneOfsRow.holds Try.pinned (OpenSpec.ofChange zoneOfsSpec)

/-- ITS FALSE NEIGHBOUR: 'it returns false'. Refute it at one input. -/
def zoneOfsWrong : ChangeSpec := { name := "zoneOfs", fn := fun _ => fun
  | [d1, d2, d3, d4, d5] => { results := [.lit (.bool false)], args := [d1, d2, d3, d4, d5] }
  | _ => none }
def ZoneOfsWrongFalsely : Prop := zoneOfsRow.holds Try.pinned (OpenSpec.ofChange zoneOfsWrong)

/-- 'micropartlaw14.ZoneJoins': WHATEVER THE INPUT: true; the input reads as it did. -/
def zoneJoinsSpec : ChangeSpec := { name := "zoneJoins", fn := fun _ => fun
  | [d1, d2, d3] => { results := [.lit (.bool true)], args := [d1, d2, d3] }
  | _ => none }
def zoneJoinsRow : OpenClaim := { program := "ythohmngckpjlbaa", sum := "8a339fa1600bdb40cc56914536dc6326b63aaee5cff9442eaec92213c2fdd6a1", func := "micropart/micropartlaw14.ZoneJoins", spec := "zoneJoins", apart := false }
def ZoneJoinsSaid : Prop := zoneJoinsRow.holds Try.pinned (OpenSpec.ofChange zoneJoinsSpec)

/-- ITS FALSE NEIGHBOUR: 'it returns false'. Refute it at one input. -/
def zoneJoinsWrong : ChangeSpec := { name := "zoneJoins", fn := fun _ => fun
  | [d1, d2, d3] => { results := [.lit (.bool false)], args := [d1, d2, d3] }
  | _ => none }
def ZoneJoinsWrongFalsely : Prop := zoneJoinsRow.holds Try.pinned (OpenSpec.ofChange zoneJoinsWrong)

/-- 'micropartlaw14.ZoneContains': WHATEVER THE INPUT: true; the input reads as it did. -/
def zoneContainsSpec : ChangeSpec := { name := "zoneContains", fn := fun _ => fun
  | [d1, d2, d3] => { results := [.lit (.bool true)], args := [d1, d2, d3] }
  | _ => none }
def zoneContainsRow : OpenClaim := { program := "ythohmngckpjlbaa", sum := "8a339fa1600bdb40cc56914536dc6326b63aaee5cff9442eaec92213c2fdd6a1", func := "micropart/micropartlaw14.ZoneContains", spec := "zoneContains", apart := false }
def ZoneContainsSaid : Prop := zoneContainsRow.holds Try.pinned (OpenSpec.ofChange zoneContainsSpec)

/-- ITS FALSE NEIGHBOUR: 'it returns false'. Refute it at one input. -/
def zoneContainsWrong : ChangeSpec := { name := "zoneContains", fn := fun _ => fun
  | [d1, d2, d3] => { results := [.lit (.bool false)], args := [d1, d2, d3] }
  | _ => none }
def ZoneContainsWrongFalsely : Prop := zoneContainsRow.holds Try.pinned (OpenSpec.ofChange zoneContainsWrong)

/-- 'micropartlaw14.ZoneChecks': WHATEVER THE INPUT: true; the input reads as it did. -/
def zoneChecksSpec : ChangeSpec := { name := "zoneChecks", fn := fun _ => fun
  | [d1, d2, d3, d4, d5, d6, d7] => { results := [.lit (.bool true)], args := [d1, d2, d3, d4, d5, d6, d7] }
  | _ => none }
def zoneChecksRow : OpenClaim := { program := "ythohmngckpjlbaa", sum := "8a339fa1600bdb40cc56914536dc6326b63aaee5cff9442eaec92213c2fdd6a1", func := "micropart/micropartlaw14.ZoneChecks", spec := "zoneChecks", apart := false }
def ZoneChecksSaid : Prop := zoneChecksRow.holds Try.pinned (OpenSpec.ofChange zoneChecksSpec)

/-- ITS FALSE NEIGHBOUR: 'it returns false'. Refute it at one input. -/
def zoneChecksWrong : ChangeSpec := { name := "zoneChecks", fn := fun _ => fun
  | [d1, d2, d3, d4, d5, d6, d7] => { results := [.lit (.bool false)], args := [d1, d2, d3, d4, d5, d6, d7] }
  | _ => none }
def ZoneChecksWrongFalsely : Prop := zoneChecksRow.holds Try.pinned (OpenSpec.ofChange zoneChecksWrong)

/-- 'micropartlaw14.ZonePuts': WHATEVER THE INPUT: true; the input reads as it did. -/
def zonePutsSpec : ChangeSpec := { name := "zonePuts", fn := fun _ => fun
  | [d1, d2, d3, d4, d5] => { results := [.lit (.bool true)], args := [d1, d2, d3, d4, d5] }
  | _ => none }
def zonePutsRow : OpenClaim := { program := "ythohmngckpjlbaa", sum := "8a339fa1600bdb40cc56914536dc6326b63aaee5cff9442eaec92213c2fdd6a1", func := "micropart/micropartlaw14.ZonePuts", spec := "zonePuts", apart := false }
def ZonePutsSaid : Prop := zonePutsRow.holds Try.pinned (OpenSpec.ofChange zonePutsSpec)

/-- ITS FALSE NEIGHBOUR: 'it returns false'. Refute it at one input. -/
def zonePutsWrong : ChangeSpec := { name := "zonePuts", fn := fun _ => fun
  | [d1, d2, d3, d4, d5] => { results := [.lit (.bool false)], args := [d1, d2, d3, d4, d5] }
  | _ => none }
def ZonePutsWrongFalsely : Prop := zonePutsRow.holds Try.pinned (OpenSpec.ofChange zonePutsWrong)

/-- 'micropartlaw14.ZoneRoundTrip': WHATEVER THE INPUT: true; the input reads as it did. -/
def zoneRoundTripSpec : ChangeSpec := { name := "zoneRoundTrip", fn := fun _ => fun
  | [d1, d2, d3, d4] => { results := [.lit (.bool true)], args := [d1, d2, d3, d4] }
  | _ => none }
def zoneRoundTripRow : OpenClaim := { program := "ythohmngckpjlbaa", sum := "8a339fa1600bdb40cc56914536dc6326b63aaee5cff9442eaec92213c2fdd6a1", func := "micropart/micropartlaw14.ZoneRoundTrip", spec := "zoneRoundTrip", apart := false }
def ZoneRoundTripSaid : Prop := zoneRoundTripRow.holds Try.pinned (OpenSpec.ofChange zoneRoundTripSpec)

/-- ITS FALSE NEIGHBOUR: 'it returns false'. Refute it at one input. -/
def zoneRoundTripWrong : ChangeSpec := { name := "zoneRoundTrip", fn := fun _ => fun
  | [d1, d2, d3, d4] => { results := [.lit (.bool false)], args := [d1, d2, d3, d4] }
  | _ => none }
def ZoneRoundTripWrongFalsely : Prop := zoneRoundTripRow.holds Try.pinned (OpenSpec.ofChange zoneRoundTripWrong)

/- THE SECOND FORM. 'bulk': how many values and letters a reading holds, each counted each time it is reached (what is shared counts as often as it is met; a slice's spare places count too). A statement '..UptoSaid' is the law's where the arguments, and the package variables that the reading takes, are together of bulk at most 1048576: NARROWER than '..Said'. Prove '..Said' where nothing that the law and all that it calls make is longer than what came in: it says more and counts as full. Else prove '..UptoSaid'. A law counts once. -/
mutual
def uptoBulk {H : Type} : DataW H → Nat
  | .lit (.string bytes) => bytes.length + 1
  | .lit _ => 1
  | .nil => 1
  | .ptr d => uptoBulk d + 1
  | .slice elems spare => uptoBulkAll elems + uptoBulkAll spare + 1
  | .agg parts => uptoBulkAll parts + 1
  | .iface _ d => uptoBulk d + 1
  | .map entries => uptoBulkEntries entries + 1
  | .held _ => 1
def uptoBulkAll {H : Type} : List (DataW H) → Nat
  | [] => 0
  | d :: r => uptoBulk d + uptoBulkAll r
def uptoBulkEntries {H : Type} : List (Lit × DataW H) → Nat
  | [] => 0
  | x :: r => uptoBulkEntry x + uptoBulkEntries r
def uptoBulkEntry {H : Type} : Lit × DataW H → Nat
  | (.string bytes, d) => bytes.length + uptoBulk d + 1
  | (_, d) => uptoBulk d + 1
 end
def uptoSmall : (H : Type) → List (DataW H) → Bool := fun _ ds => decide (uptoBulkAll ds ≤ 1048576)
def OpenSpec.upto (s : _root_.Go.ChangeSpec) : _root_.Go.OpenSpec := { _root_.Go.OpenSpec.ofChange s with cond := some uptoSmall }

/-- 'micropartlaw14.ZoneExamples', WHERE WHAT IT READS IS OF BULK AT MOST 1048576: true; the input reads as it did. -/
def zoneExamplesUptoRow : OpenClaim := { program := "ythohmngckpjlbaa", sum := "8a339fa1600bdb40cc56914536dc6326b63aaee5cff9442eaec92213c2fdd6a1", func := "micropart/micropartlaw14.ZoneExamples", spec := "zoneExamples", apart := false, narrowed := true }
def ZoneExamplesUptoSaid : Prop := zoneExamplesUptoRow.holds Try.pinned (OpenSpec.upto zoneExamplesSpec)

/-- 'micropartlaw14.ZoneOfs', WHERE WHAT IT READS IS OF BULK AT MOST 1048576: true; the input reads as it did. -/
def zoneOfsUptoRow : OpenClaim := { program := "ythohmngckpjlbaa", sum := "8a339fa1600bdb40cc56914536dc6326b63aaee5cff9442eaec92213c2fdd6a1", func := "micropart/micropartlaw14.ZoneOfs", spec := "zoneOfs", apart := false, narrowed := true }
def ZoneOfsUptoSaid : Prop := zoneOfsUptoRow.holds Try.pinned (OpenSpec.upto zoneOfsSpec)

/-- 'micropartlaw14.ZoneJoins', WHERE WHAT IT READS IS OF BULK AT MOST 1048576: true; the input reads as it did. -/
def zoneJoinsUptoRow : OpenClaim := { program := "ythohmngckpjlbaa", sum := "8a339fa1600bdb40cc56914536dc6326b63aaee5cff9442eaec92213c2fdd6a1", func := "micropart/micropartlaw14.ZoneJoins", spec := "zoneJoins", apart := false, narrowed := true }
def ZoneJoinsUptoSaid : Prop := zoneJoinsUptoRow.holds Try.pinned (OpenSpec.upto zoneJoinsSpec)

/-- 'micropartlaw14.ZoneContains', WHERE WHAT IT READS IS OF BULK AT MOST 1048576: true; the input reads as it did. -/
def zoneContainsUptoRow : OpenClaim := { program := "ythohmngckpjlbaa", sum := "8a339fa1600bdb40cc56914536dc6326b63aaee5cff9442eaec92213c2fdd6a1", func := "micropart/micropartlaw14.ZoneContains", spec := "zoneContains", apart := false, narrowed := true }
def ZoneContainsUptoSaid : Prop := zoneContainsUptoRow.holds Try.pinned (OpenSpec.upto zoneContainsSpec)

/-- 'micropartlaw14.ZoneChecks', WHERE WHAT IT READS IS OF BULK AT MOST 1048576: true; the input reads as it did. -/
def zoneChecksUptoRow : OpenClaim := { program := "ythohmngckpjlbaa", sum := "8a339fa1600bdb40cc56914536dc6326b63aaee5cff9442eaec92213c2fdd6a1", func := "micropart/micropartlaw14.ZoneChecks", spec := "zoneChecks", apart := false, narrowed := true }
def ZoneChecksUptoSaid : Prop := zoneChecksUptoRow.holds Try.pinned (OpenSpec.upto zoneChecksSpec)

/-- 'micropartlaw14.ZonePuts', WHERE WHAT IT READS IS OF BULK AT MOST 1048576: true; the input reads as it did. -/
def zonePutsUptoRow : OpenClaim := { program := "ythohmngckpjlbaa", sum := "8a339fa1600bdb40cc56914536dc6326b63aaee5cff9442eaec92213c2fdd6a1", func := "micropart/micropartlaw14.ZonePuts", spec := "zonePuts", apart := false, narrowed := true }
def ZonePutsUptoSaid : Prop := zonePutsUptoRow.holds Try.pinned (OpenSpec.upto zonePutsSpec)

/-- 'micropartlaw14.ZoneRoundTrip', WHERE WHAT IT READS IS OF BULK AT MOST 1048576: true; the input reads as it did. -/
def zoneRoundTripUptoRow : OpenClaim := { program := "ythohmngckpjlbaa", sum := "8a339fa1600bdb40cc56914536dc6326b63aaee5cff9442eaec92213c2fdd6a1", func := "micropart/micropartlaw14.ZoneRoundTrip", spec := "zoneRoundTrip", apart := false, narrowed := true }
def ZoneRoundTripUptoSaid : Prop := zoneRoundTripUptoRow.holds Try.pinned (OpenSpec.upto zoneRoundTripSpec)

end Rows
end Go.Proofs.Ythohmngckpjlbaa
