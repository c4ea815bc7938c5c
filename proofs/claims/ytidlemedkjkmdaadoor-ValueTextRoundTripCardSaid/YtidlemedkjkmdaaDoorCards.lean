/-
  DERIVED. GIVEN WITH THE SEED: THE CARDS: each row of YtidlemedkjkmdaaDoorRows.lean that lists a variable, with what it lists TIED to the program's text (the seventh form; the later family's looks); each row that meets fmt, with fmt's text TOLD by the authors' own Lean function (tested against real Go, not proved from fmt's source: count such statements apart). THE CARD IS WHAT COUNTS. Prove the row's statement (the work); the ties are given (YtidlemedkjkmdaaDoorTie.lean); close each card by the builder's one call (the guide's Derived/Test/ToyasCard.lean, 'card_holds'). Laid BY PROGRAM, IN A SANDBOX (cutbox-door.mjs). By AI agents, Wed Nov 11 2026. No macro, syntax, notation, axiom, sorry.
-/
import Derived.Test.YtidlemedkjkmdaaDoorRows
import GoSem.ClaimSeven
namespace Go.Proofs.YtidlemedkjkmdaaDoor
namespace Rows

/-- THE TIED CARD OF 'micropartlaw6.ValueExamples'. -/
def valueExamplesCard : Claim7 := { stood := { row := valueExamplesRow, standIns := [], harness := (true, "ff819eb2b528d2ef1fa42ed112a624bd46ccb97333867f774a75b2f6de9e28fe"), looks := false }, kinds := [], alts := [], laidByText := true, laidKinds := [.data, .data, .data], laidTests := true, laidLooks := .later }
def ValueExamplesCardSaid : Prop := Claim7.holds Tryd.pinned (.plain (OpenSpec.ofChange valueExamplesSpec)) valueExamplesCard

/-- THE TIED CARD OF 'micropartlaw6.ValueFormats'. -/
def valueFormatsCard : Claim7 := { stood := { row := valueFormatsRow, standIns := [], harness := (true, "ff819eb2b528d2ef1fa42ed112a624bd46ccb97333867f774a75b2f6de9e28fe"), looks := false }, kinds := [], alts := [], laidByText := true, laidKinds := [.data, .data, .data], laidTests := true, laidLooks := .later }
def ValueFormatsCardSaid : Prop := Claim7.holds Tryd.pinned (.plain (OpenSpec.ofChange valueFormatsSpec)) valueFormatsCard

/-- THE TIED CARD OF 'micropartlaw6.ValueTextRoundTrip'. -/
def valueTextRoundTripCard : Claim7 := { stood := { row := valueTextRoundTripRow, standIns := [], harness := (true, "ff819eb2b528d2ef1fa42ed112a624bd46ccb97333867f774a75b2f6de9e28fe"), looks := false }, kinds := [], alts := [], laidByText := true, laidKinds := [.data, .data, .data], laidTests := true, laidLooks := .later }
def ValueTextRoundTripCardSaid : Prop := Claim7.holds Tryd.pinned (.plain (OpenSpec.ofChange valueTextRoundTripSpec)) valueTextRoundTripCard

/-- THE SECOND FORM's CARD OF 'micropartlaw6.ValueExamples'. -/
def valueExamplesUptoCard : Claim7 := { stood := { row := valueExamplesUptoRow, standIns := [], harness := (true, "ff819eb2b528d2ef1fa42ed112a624bd46ccb97333867f774a75b2f6de9e28fe"), looks := false }, kinds := [], alts := [], laidByText := true, laidKinds := [.data, .data, .data], laidTests := true, laidLooks := .later }
def ValueExamplesUptoCardSaid : Prop := Claim7.holds Tryd.pinned (.plain (OpenSpec.upto valueExamplesSpec)) valueExamplesUptoCard

/-- THE SECOND FORM's CARD OF 'micropartlaw6.ValueFormats'. -/
def valueFormatsUptoCard : Claim7 := { stood := { row := valueFormatsUptoRow, standIns := [], harness := (true, "ff819eb2b528d2ef1fa42ed112a624bd46ccb97333867f774a75b2f6de9e28fe"), looks := false }, kinds := [], alts := [], laidByText := true, laidKinds := [.data, .data, .data], laidTests := true, laidLooks := .later }
def ValueFormatsUptoCardSaid : Prop := Claim7.holds Tryd.pinned (.plain (OpenSpec.upto valueFormatsSpec)) valueFormatsUptoCard

/-- THE SECOND FORM's CARD OF 'micropartlaw6.ValueTextRoundTrip'. -/
def valueTextRoundTripUptoCard : Claim7 := { stood := { row := valueTextRoundTripUptoRow, standIns := [], harness := (true, "ff819eb2b528d2ef1fa42ed112a624bd46ccb97333867f774a75b2f6de9e28fe"), looks := false }, kinds := [], alts := [], laidByText := true, laidKinds := [.data, .data, .data], laidTests := true, laidLooks := .later }
def ValueTextRoundTripUptoCardSaid : Prop := Claim7.holds Tryd.pinned (.plain (OpenSpec.upto valueTextRoundTripSpec)) valueTextRoundTripUptoCard
end Rows
end Go.Proofs.YtidlemedkjkmdaaDoor
