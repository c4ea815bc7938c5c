/-
  No cell of these rows narrows 'for every input' (looked for: loops, veiled, ifaces, maps, wideKeys, modest, calm, conditions, laid).
  DERIVED. THE GIVEN ROWS OF THIS SEAT. 7 by the template 'for every input the law returns true; each argument reads behind the call as it read before'; 0 by the template 'total and deterministic' (their statements: YteodifbbgohkpaaTotals.lean).
  GIVEN WITH THE SEED: the statements are not yours to turn. If you find one false, say at which input.
  Laid BY PROGRAM, IN A SANDBOX (cutbox-rows.mjs): the forced cells as the released guide's own fill.sh prints them over the translation 06ce2e68e379196e… (all of the seat's roots in one cut). By AI agents, Wed Nov 11 2026. No macro, syntax, notation, axiom, sorry.
-/
import Derived.Test.YteodifbbgohkpaaChecked
import GoSem.Claim
import GoSem.ClaimJoined
import GoSem.ClaimMapViews
import Derived.JoinedTies
import Derived.KernelRfl
namespace Go.Proofs.Yteodifbbgohkpaa
/- THE CELL 'sum', in the pinned program and in every row, IS THE sha256 OF THE DUMP (.gsa) THAT YteodifbbgohkpaaProg.lean LOADS. Nothing in Lean hashes anything: it is a label: what it is worth is what the hold of that sum in a sandbox is worth. -/
noncomputable def Try.pinned : Pinned := { name := "yteodifbbgohkpaa", sum := "06ce2e68e379196e5e6c36e1c680d74a3469105b7f85317189d075d277123b00", checked := Try.checked }
namespace Rows
def none {H : Type} : Left H := { results := [], args := [] }

/-- 'micropartlaw8.NullsExamples': WHATEVER THE INPUT: true; the input reads as it did. -/
def nullsExamplesSpec : ChangeSpec := { name := "nullsExamples", fn := fun _ => fun
  | [] => { results := [.lit (.bool true)], args := [] }
  | _ => none }
def nullsExamplesRow : OpenClaim := { program := "yteodifbbgohkpaa", sum := "06ce2e68e379196e5e6c36e1c680d74a3469105b7f85317189d075d277123b00", func := "micropart/micropartlaw8.NullsExamples", spec := "nullsExamples", apart := false }
def NullsExamplesSaid : Prop := nullsExamplesRow.holds Try.pinned (OpenSpec.ofChange nullsExamplesSpec)

/-- ITS FALSE NEIGHBOUR: 'it returns false'. Refute it at one input. -/
def nullsExamplesWrong : ChangeSpec := { name := "nullsExamples", fn := fun _ => fun
  | [] => { results := [.lit (.bool false)], args := [] }
  | _ => none }
def NullsExamplesWrongFalsely : Prop := nullsExamplesRow.holds Try.pinned (OpenSpec.ofChange nullsExamplesWrong)

/-- 'micropartlaw8.NullsPacks': WHATEVER THE INPUT: true; the input reads as it did. -/
def nullsPacksSpec : ChangeSpec := { name := "nullsPacks", fn := fun _ => fun
  | [d] => { results := [.lit (.bool true)], args := [d] }
  | _ => none }
def nullsPacksRow : OpenClaim := { program := "yteodifbbgohkpaa", sum := "06ce2e68e379196e5e6c36e1c680d74a3469105b7f85317189d075d277123b00", func := "micropart/micropartlaw8.NullsPacks", spec := "nullsPacks", apart := false }
def NullsPacksSaid : Prop := nullsPacksRow.holds Try.pinned (OpenSpec.ofChange nullsPacksSpec)

/-- ITS FALSE NEIGHBOUR: 'it returns false'. Refute it at one input. -/
def nullsPacksWrong : ChangeSpec := { name := "nullsPacks", fn := fun _ => fun
  | [d] => { results := [.lit (.bool false)], args := [d] }
  | _ => none }
def NullsPacksWrongFalsely : Prop := nullsPacksRow.holds Try.pinned (OpenSpec.ofChange nullsPacksWrong)

/-- 'micropartlaw8.NullsUnpacks': WHATEVER THE INPUT: true; the input reads as it did. -/
def nullsUnpacksSpec : ChangeSpec := { name := "nullsUnpacks", fn := fun _ => fun
  | [d1, d2] => { results := [.lit (.bool true)], args := [d1, d2] }
  | _ => none }
def nullsUnpacksRow : OpenClaim := { program := "yteodifbbgohkpaa", sum := "06ce2e68e379196e5e6c36e1c680d74a3469105b7f85317189d075d277123b00", func := "micropart/micropartlaw8.NullsUnpacks", spec := "nullsUnpacks", apart := false }
def NullsUnpacksSaid : Prop := nullsUnpacksRow.holds Try.pinned (OpenSpec.ofChange nullsUnpacksSpec)

/-- ITS FALSE NEIGHBOUR: 'it returns false'. Refute it at one input. -/
def nullsUnpacksWrong : ChangeSpec := { name := "nullsUnpacks", fn := fun _ => fun
  | [d1, d2] => { results := [.lit (.bool false)], args := [d1, d2] }
  | _ => none }
def NullsUnpacksWrongFalsely : Prop := nullsUnpacksRow.holds Try.pinned (OpenSpec.ofChange nullsUnpacksWrong)

/-- 'micropartlaw8.NullsCounts': WHATEVER THE INPUT: true; the input reads as it did. -/
def nullsCountsSpec : ChangeSpec := { name := "nullsCounts", fn := fun _ => fun
  | [d1, d2] => { results := [.lit (.bool true)], args := [d1, d2] }
  | _ => none }
def nullsCountsRow : OpenClaim := { program := "yteodifbbgohkpaa", sum := "06ce2e68e379196e5e6c36e1c680d74a3469105b7f85317189d075d277123b00", func := "micropart/micropartlaw8.NullsCounts", spec := "nullsCounts", apart := false }
def NullsCountsSaid : Prop := nullsCountsRow.holds Try.pinned (OpenSpec.ofChange nullsCountsSpec)

/-- ITS FALSE NEIGHBOUR: 'it returns false'. Refute it at one input. -/
def nullsCountsWrong : ChangeSpec := { name := "nullsCounts", fn := fun _ => fun
  | [d1, d2] => { results := [.lit (.bool false)], args := [d1, d2] }
  | _ => none }
def NullsCountsWrongFalsely : Prop := nullsCountsRow.holds Try.pinned (OpenSpec.ofChange nullsCountsWrong)

/-- 'micropartlaw8.NullsRoundTrip': WHATEVER THE INPUT: true; the input reads as it did. -/
def nullsRoundTripSpec : ChangeSpec := { name := "nullsRoundTrip", fn := fun _ => fun
  | [d] => { results := [.lit (.bool true)], args := [d] }
  | _ => none }
def nullsRoundTripRow : OpenClaim := { program := "yteodifbbgohkpaa", sum := "06ce2e68e379196e5e6c36e1c680d74a3469105b7f85317189d075d277123b00", func := "micropart/micropartlaw8.NullsRoundTrip", spec := "nullsRoundTrip", apart := false }
def NullsRoundTripSaid : Prop := nullsRoundTripRow.holds Try.pinned (OpenSpec.ofChange nullsRoundTripSpec)

/-- ITS FALSE NEIGHBOUR: 'it returns false'. Refute it at one input. -/
def nullsRoundTripWrong : ChangeSpec := { name := "nullsRoundTrip", fn := fun _ => fun
  | [d] => { results := [.lit (.bool false)], args := [d] }
  | _ => none }
def NullsRoundTripWrongFalsely : Prop := nullsRoundTripRow.holds Try.pinned (OpenSpec.ofChange nullsRoundTripWrong)

/-- 'micropartlaw8.NullsRankIsIndex': WHATEVER THE INPUT: true; the input reads as it did. -/
def nullsRankIsIndexSpec : ChangeSpec := { name := "nullsRankIsIndex", fn := fun _ => fun
  | [d] => { results := [.lit (.bool true)], args := [d] }
  | _ => none }
def nullsRankIsIndexRow : OpenClaim := { program := "yteodifbbgohkpaa", sum := "06ce2e68e379196e5e6c36e1c680d74a3469105b7f85317189d075d277123b00", func := "micropart/micropartlaw8.NullsRankIsIndex", spec := "nullsRankIsIndex", apart := false }
def NullsRankIsIndexSaid : Prop := nullsRankIsIndexRow.holds Try.pinned (OpenSpec.ofChange nullsRankIsIndexSpec)

/-- ITS FALSE NEIGHBOUR: 'it returns false'. Refute it at one input. -/
def nullsRankIsIndexWrong : ChangeSpec := { name := "nullsRankIsIndex", fn := fun _ => fun
  | [d] => { results := [.lit (.bool false)], args := [d] }
  | _ => none }
def NullsRankIsIndexWrongFalsely : Prop := nullsRankIsIndexRow.holds Try.pinned (OpenSpec.ofChange nullsRankIsIndexWrong)

/-- 'micropartlaw8.NullsTogether': WHATEVER THE INPUT: true; the input reads as it did. -/
def nullsTogetherSpec : ChangeSpec := { name := "nullsTogether", fn := fun _ => fun
  | [d1, d2] => { results := [.lit (.bool true)], args := [d1, d2] }
  | _ => none }
def nullsTogetherRow : OpenClaim := { program := "yteodifbbgohkpaa", sum := "06ce2e68e379196e5e6c36e1c680d74a3469105b7f85317189d075d277123b00", func := "micropart/micropartlaw8.NullsTogether", spec := "nullsTogether", apart := false }
def NullsTogetherSaid : Prop := nullsTogetherRow.holds Try.pinned (OpenSpec.ofChange nullsTogetherSpec)

/-- ITS FALSE NEIGHBOUR: 'it returns false'. Refute it at one input. -/
def nullsTogetherWrong : ChangeSpec := { name := "nullsTogether", fn := fun _ => fun
  | [d1, d2] => { results := [.lit (.bool false)], args := [d1, d2] }
  | _ => none }
def NullsTogetherWrongFalsely : Prop := nullsTogetherRow.holds Try.pinned (OpenSpec.ofChange nullsTogetherWrong)

/- THE SECOND FORM. 'bulk': how many values and letters a reading holds, each counted each time it is reached (what is shared counts as often as it is met; a slice's spare places count too). A statement '..UptoSaid' is the law's where the arguments, and the package variables that the reading takes, are together of bulk at most 1048576: NARROWER than '..Said'. Prove '..Said' where nothing that the law and all that it calls make is longer than what came in: it says more and counts as full. Else prove '..UptoSaid'. A law counts once. -/
mutual
def uptoBulk {H : Type} : DataW H → Nat
  | .lit (.string bytes) => bytes.length + 1
  | .lit _ => 1
  | .nil => 1
  | .ptr d => uptoBulk d + 1
  | .slice elems spare => uptoBulkAll elems + uptoBulkAll spare + 1
  | .agg parts => uptoBulkAll parts + 1
  | .iface _ d => uptoBulk d + 1
  | .map entries => uptoBulkEntries entries + 1
  | .held _ => 1
def uptoBulkAll {H : Type} : List (DataW H) → Nat
  | [] => 0
  | d :: r => uptoBulk d + uptoBulkAll r
def uptoBulkEntries {H : Type} : List (Lit × DataW H) → Nat
  | [] => 0
  | x :: r => uptoBulkEntry x + uptoBulkEntries r
def uptoBulkEntry {H : Type} : Lit × DataW H → Nat
  | (.string bytes, d) => bytes.length + uptoBulk d + 1
  | (_, d) => uptoBulk d + 1
 end
def uptoSmall : (H : Type) → List (DataW H) → Bool := fun _ ds => decide (uptoBulkAll ds ≤ 1048576)
def OpenSpec.upto (s : _root_.Go.ChangeSpec) : _root_.Go.OpenSpec := { _root_.Go.OpenSpec.ofChange s with cond := some uptoSmall }

/-- 'micropartlaw8.NullsExamples', WHERE WHAT IT READS IS OF BULK AT MOST 1048576: true; the input reads as it did. -/
def nullsExamplesUptoRow : OpenClaim := { program := "yteodifbbgohkpaa", sum := "06ce2e68e379196e5e6c36e1c680d74a3469105b7f85317189d075d277123b00", func := "micropart/micropartlaw8.NullsExamples", spec := "nullsExamples", apart := false, narrowed := true }
def NullsExamplesUptoSaid : Prop := nullsExamplesUptoRow.holds Try.pinned (OpenSpec.upto nullsExamplesSpec)

/-- 'micropartlaw8.NullsPacks', WHERE WHAT IT READS IS OF BULK AT MOST 1048576: true; the input reads as it did. -/
def nullsPacksUptoRow : OpenClaim := { program := "yteodifbbgohkpaa", sum := "06ce2e68e379196e5e6c36e1c680d74a3469105b7f85317189d075d277123b00", func := "micropart/micropartlaw8.NullsPacks", spec := "nullsPacks", apart := false, narrowed := true }
def NullsPacksUptoSaid : Prop := nullsPacksUptoRow.holds Try.pinned (OpenSpec.upto nullsPacksSpec)

/-- 'micropartlaw8.NullsUnpacks', WHERE WHAT IT READS IS OF BULK AT MOST 1048576: true; the input reads as it did. -/
def nullsUnpacksUptoRow : OpenClaim := { program := "yteodifbbgohkpaa", sum := "06ce2e68e379196e5e6c36e1c680d74a3469105b7f85317189d075d277123b00", func := "micropart/micropartlaw8.NullsUnpacks", spec := "nullsUnpacks", apart := false, narrowed := true }
def NullsUnpacksUptoSaid : Prop := nullsUnpacksUptoRow.holds Try.pinned (OpenSpec.upto nullsUnpacksSpec)

/-- 'micropartlaw8.NullsCounts', WHERE WHAT IT READS IS OF BULK AT MOST 1048576: true; the input reads as it did. -/
def nullsCountsUptoRow : OpenClaim := { program := "yteodifbbgohkpaa", sum := "06ce2e68e379196e5e6c36e1c680d74a3469105b7f85317189d075d277123b00", func := "micropart/micropartlaw8.NullsCounts", spec := "nullsCounts", apart := false, narrowed := true }
def NullsCountsUptoSaid : Prop := nullsCountsUptoRow.holds Try.pinned (OpenSpec.upto nullsCountsSpec)

/-- 'micropartlaw8.NullsRoundTrip', WHERE WHAT IT READS IS OF BULK AT MOST 1048576: true; the input reads as it did. -/
def nullsRoundTripUptoRow : OpenClaim := { program := "yteodifbbgohkpaa", sum := "06ce2e68e379196e5e6c36e1c680d74a3469105b7f85317189d075d277123b00", func := "micropart/micropartlaw8.NullsRoundTrip", spec := "nullsRoundTrip", apart := false, narrowed := true }
def NullsRoundTripUptoSaid : Prop := nullsRoundTripUptoRow.holds Try.pinned (OpenSpec.upto nullsRoundTripSpec)

/-- 'micropartlaw8.NullsRankIsIndex', WHERE WHAT IT READS IS OF BULK AT MOST 1048576: true; the input reads as it did. -/
def nullsRankIsIndexUptoRow : OpenClaim := { program := "yteodifbbgohkpaa", sum := "06ce2e68e379196e5e6c36e1c680d74a3469105b7f85317189d075d277123b00", func := "micropart/micropartlaw8.NullsRankIsIndex", spec := "nullsRankIsIndex", apart := false, narrowed := true }
def NullsRankIsIndexUptoSaid : Prop := nullsRankIsIndexUptoRow.holds Try.pinned (OpenSpec.upto nullsRankIsIndexSpec)

/-- 'micropartlaw8.NullsTogether', WHERE WHAT IT READS IS OF BULK AT MOST 1048576: true; the input reads as it did. -/
def nullsTogetherUptoRow : OpenClaim := { program := "yteodifbbgohkpaa", sum := "06ce2e68e379196e5e6c36e1c680d74a3469105b7f85317189d075d277123b00", func := "micropart/micropartlaw8.NullsTogether", spec := "nullsTogether", apart := false, narrowed := true }
def NullsTogetherUptoSaid : Prop := nullsTogetherUptoRow.holds Try.pinned (OpenSpec.upto nullsTogetherSpec)

end Rows
end Go.Proofs.Yteodifbbgohkpaa
