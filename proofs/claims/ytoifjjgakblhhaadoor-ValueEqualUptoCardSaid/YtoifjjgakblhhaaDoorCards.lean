/-
  DERIVED. GIVEN WITH THE SEED: THE CARDS: each row of YtoifjjgakblhhaaDoorRows.lean that lists a variable, with what it lists TIED to the program's text (the seventh form; the later family's looks); each row that meets fmt, with fmt's text TOLD by the authors' own Lean function (tested against real Go, not proved from fmt's source: count such statements apart). THE CARD IS WHAT COUNTS. Prove the row's statement (the work); the ties are given (YtoifjjgakblhhaaDoorTie.lean); close each card by the builder's one call (the guide's Derived/Test/ToyasCard.lean, 'card_holds'). Laid BY PROGRAM, IN A SANDBOX (cutbox-door.mjs). By AI agents, Wed Nov 11 2026. No macro, syntax, notation, axiom, sorry.
-/
import Derived.Test.YtoifjjgakblhhaaDoorRows
import GoSem.ClaimSeven
namespace Go.Proofs.YtoifjjgakblhhaaDoor
namespace Rows

/-- THE TIED CARD OF 'diptychlaw2.ValueEqual'. -/
def valueEqualCard : Claim7 := { stood := { row := valueEqualRow, standIns := [], harness := (true, "0c63d0a08196e40ea01b31efd66d9f69d8d5d5666e836c4157768cf351dbb983"), looks := true }, kinds := [], alts := [], laidByText := true, laidKinds := [.data, .data, .data, .data, .pinned], laidTests := true, laidLooks := .later }
def ValueEqualCardSaid : Prop := Claim7.holds Tryd.pinned (.plain (OpenSpec.ofChange valueEqualSpec)) valueEqualCard

/-- THE SECOND FORM's CARD OF 'diptychlaw2.ValueEqual'. -/
def valueEqualUptoCard : Claim7 := { stood := { row := valueEqualUptoRow, standIns := [], harness := (true, "0c63d0a08196e40ea01b31efd66d9f69d8d5d5666e836c4157768cf351dbb983"), looks := true }, kinds := [], alts := [], laidByText := true, laidKinds := [.data, .data, .data, .data, .pinned], laidTests := true, laidLooks := .later }
def ValueEqualUptoCardSaid : Prop := Claim7.holds Tryd.pinned (.plain (OpenSpec.upto valueEqualSpec)) valueEqualUptoCard
end Rows
end Go.Proofs.YtoifjjgakblhhaaDoor
