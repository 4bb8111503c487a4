/-
  DERIVED. GIVEN WITH THE SEED: THE CARDS: each row of YtabgilmehehbjaaDoorRows.lean that lists a variable, with what it lists TIED to the program's text (the seventh form; the later family's looks); each row that meets fmt, with fmt's text TOLD by the authors' own Lean function (tested against real Go, not proved from fmt's source: count such statements apart). THE CARD IS WHAT COUNTS. Prove the row's statement (the work); the ties are given (YtabgilmehehbjaaDoorTie.lean); close each card by the builder's one call (the guide's Derived/Test/ToyasCard.lean, 'card_holds'). Laid BY PROGRAM, IN A SANDBOX (cutbox-door.mjs). By AI agents, Wed Nov 11 2026. No macro, syntax, notation, axiom, sorry.
-/
import Derived.Test.YtabgilmehehbjaaDoorRows
import GoSem.ClaimSeven
namespace Go.Proofs.YtabgilmehehbjaaDoor
namespace Rows

/-- THE TIED CARD OF 'diptychlaw1.DecimalReads'. -/
def decimalReadsCard : Claim7 := { stood := { row := decimalReadsRow, standIns := [], harness := (true, "61503a7449abe1a1375ea8110d23d3108516a5c188c69f48d87cad1cdbe1fcf5"), looks := true }, kinds := [], alts := [], laidByText := true, laidKinds := [.data, .data, .data, .data, .sentinel, .sentinel, .pinned], laidTests := true, laidLooks := .later }
def DecimalReadsCardSaid : Prop := Claim7.holds Tryd.pinned (.plain (OpenSpec.ofChange decimalReadsSpec)) decimalReadsCard

/-- THE TIED CARD OF 'diptychlaw1.DecimalReckons'. -/
def decimalReckonsCard : Claim7 := { stood := { row := decimalReckonsRow, standIns := [], harness := (true, "61503a7449abe1a1375ea8110d23d3108516a5c188c69f48d87cad1cdbe1fcf5"), looks := true }, kinds := [], alts := [], laidByText := true, laidKinds := [.data, .data, .data, .data, .pinned], laidTests := true, laidLooks := .later }
def DecimalReckonsCardSaid : Prop := Claim7.holds Tryd.pinned (.plain (OpenSpec.ofChange decimalReckonsSpec)) decimalReckonsCard

/-- THE TIED CARD OF 'diptychlaw1.DecimalSums'. -/
def decimalSumsCard : Claim7 := { stood := { row := decimalSumsRow, standIns := [], harness := (true, "61503a7449abe1a1375ea8110d23d3108516a5c188c69f48d87cad1cdbe1fcf5"), looks := true }, kinds := [], alts := [], laidByText := true, laidKinds := [.data, .data, .data, .data, .pinned], laidTests := true, laidLooks := .later }
def DecimalSumsCardSaid : Prop := Claim7.holds Tryd.pinned (.plain (OpenSpec.ofChange decimalSumsSpec)) decimalSumsCard

/-- THE TIED CARD OF 'diptychlaw1.DecimalLaws'. -/
def decimalLawsCard : Claim7 := { stood := { row := decimalLawsRow, standIns := [], harness := (true, "61503a7449abe1a1375ea8110d23d3108516a5c188c69f48d87cad1cdbe1fcf5"), looks := true }, kinds := [], alts := [], laidByText := true, laidKinds := [.data, .data, .data, .data, .pinned], laidTests := true, laidLooks := .later }
def DecimalLawsCardSaid : Prop := Claim7.holds Tryd.pinned (.plain (OpenSpec.ofChange decimalLawsSpec)) decimalLawsCard

/-- THE TIED CARD OF 'diptychlaw1.DecimalOrder'. -/
def decimalOrderCard : Claim7 := { stood := { row := decimalOrderRow, standIns := [], harness := (true, "61503a7449abe1a1375ea8110d23d3108516a5c188c69f48d87cad1cdbe1fcf5"), looks := true }, kinds := [], alts := [], laidByText := true, laidKinds := [.data, .data, .data, .data, .pinned], laidTests := true, laidLooks := .later }
def DecimalOrderCardSaid : Prop := Claim7.holds Tryd.pinned (.plain (OpenSpec.ofChange decimalOrderSpec)) decimalOrderCard

/-- THE TIED CARD OF 'diptychlaw1.DecimalCuts'. -/
def decimalCutsCard : Claim7 := { stood := { row := decimalCutsRow, standIns := [], harness := (true, "61503a7449abe1a1375ea8110d23d3108516a5c188c69f48d87cad1cdbe1fcf5"), looks := true }, kinds := [], alts := [], laidByText := true, laidKinds := [.data, .data, .data, .data, .pinned], laidTests := true, laidLooks := .later }
def DecimalCutsCardSaid : Prop := Claim7.holds Tryd.pinned (.plain (OpenSpec.ofChange decimalCutsSpec)) decimalCutsCard

/-- THE TIED CARD OF 'diptychlaw1.DecimalEnds'. -/
def decimalEndsCard : Claim7 := { stood := { row := decimalEndsRow, standIns := [], harness := (true, "61503a7449abe1a1375ea8110d23d3108516a5c188c69f48d87cad1cdbe1fcf5"), looks := true }, kinds := [], alts := [], laidByText := true, laidKinds := [.data, .data, .data, .data, .sentinel, .sentinel, .pinned], laidTests := true, laidLooks := .later }
def DecimalEndsCardSaid : Prop := Claim7.holds Tryd.pinned (.plain (OpenSpec.ofChange decimalEndsSpec)) decimalEndsCard

/-- THE SECOND FORM's CARD OF 'diptychlaw1.DecimalReads'. -/
def decimalReadsUptoCard : Claim7 := { stood := { row := decimalReadsUptoRow, standIns := [], harness := (true, "61503a7449abe1a1375ea8110d23d3108516a5c188c69f48d87cad1cdbe1fcf5"), looks := true }, kinds := [], alts := [], laidByText := true, laidKinds := [.data, .data, .data, .data, .sentinel, .sentinel, .pinned], laidTests := true, laidLooks := .later }
def DecimalReadsUptoCardSaid : Prop := Claim7.holds Tryd.pinned (.plain (OpenSpec.upto decimalReadsSpec)) decimalReadsUptoCard

/-- THE SECOND FORM's CARD OF 'diptychlaw1.DecimalReckons'. -/
def decimalReckonsUptoCard : Claim7 := { stood := { row := decimalReckonsUptoRow, standIns := [], harness := (true, "61503a7449abe1a1375ea8110d23d3108516a5c188c69f48d87cad1cdbe1fcf5"), looks := true }, kinds := [], alts := [], laidByText := true, laidKinds := [.data, .data, .data, .data, .pinned], laidTests := true, laidLooks := .later }
def DecimalReckonsUptoCardSaid : Prop := Claim7.holds Tryd.pinned (.plain (OpenSpec.upto decimalReckonsSpec)) decimalReckonsUptoCard

/-- THE SECOND FORM's CARD OF 'diptychlaw1.DecimalSums'. -/
def decimalSumsUptoCard : Claim7 := { stood := { row := decimalSumsUptoRow, standIns := [], harness := (true, "61503a7449abe1a1375ea8110d23d3108516a5c188c69f48d87cad1cdbe1fcf5"), looks := true }, kinds := [], alts := [], laidByText := true, laidKinds := [.data, .data, .data, .data, .pinned], laidTests := true, laidLooks := .later }
def DecimalSumsUptoCardSaid : Prop := Claim7.holds Tryd.pinned (.plain (OpenSpec.upto decimalSumsSpec)) decimalSumsUptoCard

/-- THE SECOND FORM's CARD OF 'diptychlaw1.DecimalLaws'. -/
def decimalLawsUptoCard : Claim7 := { stood := { row := decimalLawsUptoRow, standIns := [], harness := (true, "61503a7449abe1a1375ea8110d23d3108516a5c188c69f48d87cad1cdbe1fcf5"), looks := true }, kinds := [], alts := [], laidByText := true, laidKinds := [.data, .data, .data, .data, .pinned], laidTests := true, laidLooks := .later }
def DecimalLawsUptoCardSaid : Prop := Claim7.holds Tryd.pinned (.plain (OpenSpec.upto decimalLawsSpec)) decimalLawsUptoCard

/-- THE SECOND FORM's CARD OF 'diptychlaw1.DecimalOrder'. -/
def decimalOrderUptoCard : Claim7 := { stood := { row := decimalOrderUptoRow, standIns := [], harness := (true, "61503a7449abe1a1375ea8110d23d3108516a5c188c69f48d87cad1cdbe1fcf5"), looks := true }, kinds := [], alts := [], laidByText := true, laidKinds := [.data, .data, .data, .data, .pinned], laidTests := true, laidLooks := .later }
def DecimalOrderUptoCardSaid : Prop := Claim7.holds Tryd.pinned (.plain (OpenSpec.upto decimalOrderSpec)) decimalOrderUptoCard

/-- THE SECOND FORM's CARD OF 'diptychlaw1.DecimalCuts'. -/
def decimalCutsUptoCard : Claim7 := { stood := { row := decimalCutsUptoRow, standIns := [], harness := (true, "61503a7449abe1a1375ea8110d23d3108516a5c188c69f48d87cad1cdbe1fcf5"), looks := true }, kinds := [], alts := [], laidByText := true, laidKinds := [.data, .data, .data, .data, .pinned], laidTests := true, laidLooks := .later }
def DecimalCutsUptoCardSaid : Prop := Claim7.holds Tryd.pinned (.plain (OpenSpec.upto decimalCutsSpec)) decimalCutsUptoCard

/-- THE SECOND FORM's CARD OF 'diptychlaw1.DecimalEnds'. -/
def decimalEndsUptoCard : Claim7 := { stood := { row := decimalEndsUptoRow, standIns := [], harness := (true, "61503a7449abe1a1375ea8110d23d3108516a5c188c69f48d87cad1cdbe1fcf5"), looks := true }, kinds := [], alts := [], laidByText := true, laidKinds := [.data, .data, .data, .data, .sentinel, .sentinel, .pinned], laidTests := true, laidLooks := .later }
def DecimalEndsUptoCardSaid : Prop := Claim7.holds Tryd.pinned (.plain (OpenSpec.upto decimalEndsSpec)) decimalEndsUptoCard
end Rows
end Go.Proofs.YtabgilmehehbjaaDoor
