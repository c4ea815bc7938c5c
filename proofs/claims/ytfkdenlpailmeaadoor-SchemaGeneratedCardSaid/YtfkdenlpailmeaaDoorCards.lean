/-
  DERIVED. GIVEN WITH THE SEED: THE CARDS: each row of YtfkdenlpailmeaaDoorRows.lean that lists a variable, with what it lists TIED to the program's text (the seventh form; the later family's looks); each row that meets fmt, with fmt's text TOLD by the authors' own Lean function (tested against real Go, not proved from fmt's source: count such statements apart). THE CARD IS WHAT COUNTS. Prove the row's statement (the work); the ties are given (YtfkdenlpailmeaaDoorTie.lean); close each card by the builder's one call (the guide's Derived/Test/ToyasCard.lean, 'card_holds'). Laid BY PROGRAM, IN A SANDBOX (cutbox-door.mjs). By AI agents, Wed Nov 11 2026. No macro, syntax, notation, axiom, sorry.
-/
import Derived.Test.YtfkdenlpailmeaaDoorRows
import GoSem.ClaimSeven
namespace Go.Proofs.YtfkdenlpailmeaaDoor
namespace Rows

/-- THE TIED CARD OF 'micropartlaw7.SchemaExamples'. -/
def schemaExamplesCard : Claim7 := { stood := { row := schemaExamplesRow, standIns := [], harness := (true, "650db67837005a139688f0197d72ddc63d302b5ba2a9ec9f83b2658c7826d7dd"), looks := false }, kinds := [], alts := [], laidByText := true, laidKinds := [.data, .data, .data], laidTests := true, laidLooks := .later }
def SchemaExamplesCardSaid : Prop := Claim7.holds Tryd.pinned (.plain (OpenSpec.ofChange schemaExamplesSpec)) schemaExamplesCard

/-- THE TIED CARD OF 'micropartlaw7.SchemaRaw'. -/
def schemaRawCard : Claim7 := { stood := { row := schemaRawRow, standIns := [], harness := (true, "650db67837005a139688f0197d72ddc63d302b5ba2a9ec9f83b2658c7826d7dd"), looks := false }, kinds := [], alts := [], laidByText := true, laidKinds := [.data, .data, .data], laidTests := true, laidLooks := .later }
def SchemaRawCardSaid : Prop := Claim7.holds Tryd.pinned (.plain (OpenSpec.ofChange schemaRawSpec)) schemaRawCard

/-- THE TIED CARD OF 'micropartlaw7.SchemaGenerated'. -/
def schemaGeneratedCard : Claim7 := { stood := { row := schemaGeneratedRow, standIns := [], harness := (true, "650db67837005a139688f0197d72ddc63d302b5ba2a9ec9f83b2658c7826d7dd"), looks := false }, kinds := [], alts := [], laidByText := true, laidKinds := [.data, .data, .data], laidTests := true, laidLooks := .later }
def SchemaGeneratedCardSaid : Prop := Claim7.holds Tryd.pinned (.plain (OpenSpec.ofChange schemaGeneratedSpec)) schemaGeneratedCard

/-- THE TIED CARD OF 'micropartlaw7.SchemaRoundTrip'. -/
def schemaRoundTripCard : Claim7 := { stood := { row := schemaRoundTripRow, standIns := [], harness := (true, "650db67837005a139688f0197d72ddc63d302b5ba2a9ec9f83b2658c7826d7dd"), looks := false }, kinds := [], alts := [], laidByText := true, laidKinds := [.data, .data, .data], laidTests := true, laidLooks := .later }
def SchemaRoundTripCardSaid : Prop := Claim7.holds Tryd.pinned (.plain (OpenSpec.ofChange schemaRoundTripSpec)) schemaRoundTripCard

/-- THE TIED CARD OF 'micropartlaw7.SchemaIds'. -/
def schemaIdsCard : Claim7 := { stood := { row := schemaIdsRow, standIns := [], harness := (true, "650db67837005a139688f0197d72ddc63d302b5ba2a9ec9f83b2658c7826d7dd"), looks := false }, kinds := [], alts := [], laidByText := true, laidKinds := [.data, .data, .data], laidTests := true, laidLooks := .later }
def SchemaIdsCardSaid : Prop := Claim7.holds Tryd.pinned (.plain (OpenSpec.ofChange schemaIdsSpec)) schemaIdsCard

/-- THE SECOND FORM's CARD OF 'micropartlaw7.SchemaExamples'. -/
def schemaExamplesUptoCard : Claim7 := { stood := { row := schemaExamplesUptoRow, standIns := [], harness := (true, "650db67837005a139688f0197d72ddc63d302b5ba2a9ec9f83b2658c7826d7dd"), looks := false }, kinds := [], alts := [], laidByText := true, laidKinds := [.data, .data, .data], laidTests := true, laidLooks := .later }
def SchemaExamplesUptoCardSaid : Prop := Claim7.holds Tryd.pinned (.plain (OpenSpec.upto schemaExamplesSpec)) schemaExamplesUptoCard

/-- THE SECOND FORM's CARD OF 'micropartlaw7.SchemaRaw'. -/
def schemaRawUptoCard : Claim7 := { stood := { row := schemaRawUptoRow, standIns := [], harness := (true, "650db67837005a139688f0197d72ddc63d302b5ba2a9ec9f83b2658c7826d7dd"), looks := false }, kinds := [], alts := [], laidByText := true, laidKinds := [.data, .data, .data], laidTests := true, laidLooks := .later }
def SchemaRawUptoCardSaid : Prop := Claim7.holds Tryd.pinned (.plain (OpenSpec.upto schemaRawSpec)) schemaRawUptoCard

/-- THE SECOND FORM's CARD OF 'micropartlaw7.SchemaGenerated'. -/
def schemaGeneratedUptoCard : Claim7 := { stood := { row := schemaGeneratedUptoRow, standIns := [], harness := (true, "650db67837005a139688f0197d72ddc63d302b5ba2a9ec9f83b2658c7826d7dd"), looks := false }, kinds := [], alts := [], laidByText := true, laidKinds := [.data, .data, .data], laidTests := true, laidLooks := .later }
def SchemaGeneratedUptoCardSaid : Prop := Claim7.holds Tryd.pinned (.plain (OpenSpec.upto schemaGeneratedSpec)) schemaGeneratedUptoCard

/-- THE SECOND FORM's CARD OF 'micropartlaw7.SchemaRoundTrip'. -/
def schemaRoundTripUptoCard : Claim7 := { stood := { row := schemaRoundTripUptoRow, standIns := [], harness := (true, "650db67837005a139688f0197d72ddc63d302b5ba2a9ec9f83b2658c7826d7dd"), looks := false }, kinds := [], alts := [], laidByText := true, laidKinds := [.data, .data, .data], laidTests := true, laidLooks := .later }
def SchemaRoundTripUptoCardSaid : Prop := Claim7.holds Tryd.pinned (.plain (OpenSpec.upto schemaRoundTripSpec)) schemaRoundTripUptoCard

/-- THE SECOND FORM's CARD OF 'micropartlaw7.SchemaIds'. -/
def schemaIdsUptoCard : Claim7 := { stood := { row := schemaIdsUptoRow, standIns := [], harness := (true, "650db67837005a139688f0197d72ddc63d302b5ba2a9ec9f83b2658c7826d7dd"), looks := false }, kinds := [], alts := [], laidByText := true, laidKinds := [.data, .data, .data], laidTests := true, laidLooks := .later }
def SchemaIdsUptoCardSaid : Prop := Claim7.holds Tryd.pinned (.plain (OpenSpec.upto schemaIdsSpec)) schemaIdsUptoCard
end Rows
end Go.Proofs.YtfkdenlpailmeaaDoor
