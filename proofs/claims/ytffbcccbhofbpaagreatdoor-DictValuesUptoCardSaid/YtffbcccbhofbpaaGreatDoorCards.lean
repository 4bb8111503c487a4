/-
  DERIVED. GIVEN WITH THE SEED: THE CARDS: each row of YtffbcccbhofbpaaGreatDoorRows.lean that lists a variable, with what it lists TIED to the program's text (the seventh form; the later family's looks); each row that meets fmt, with fmt's text TOLD by the authors' own Lean function (tested against real Go, not proved from fmt's source: count such statements apart). THE CARD IS WHAT COUNTS. Prove the row's statement (the work); the ties are given (YtffbcccbhofbpaaGreatDoorTie.lean); close each card by the builder's one call (the guide's Derived/Test/ToyasCard.lean, 'card_holds'). Laid BY PROGRAM, IN A SANDBOX (cutbox-door.mjs). By AI agents, Wed Nov 11 2026. No macro, syntax, notation, axiom, sorry.
-/
import Derived.Test.YtffbcccbhofbpaaGreatDoorRows
import GoSem.ClaimSeven
namespace Go.Proofs.YtffbcccbhofbpaaGreatDoor
namespace Rows

/-- THE TIED CARD OF 'diptychlaw4.DictValues'. -/
def dictValuesCard : Claim7 := { stood := { row := dictValuesRow, standIns := [], harness := (true, "b6f9759510317fab8c93027d6fcf5cc7aba73887a561a179ca6c15ad1cff212d"), looks := true }, kinds := [], alts := [], laidByText := true, laidKinds := [.data, .pinned], laidTests := true, laidLooks := .later }
def DictValuesCardSaid : Prop := Claim7.holds Tryz.pinned (.plain (OpenSpec.ofChange dictValuesSpec)) dictValuesCard

/-- THE SECOND FORM's CARD OF 'diptychlaw4.DictValues'. -/
def dictValuesUptoCard : Claim7 := { stood := { row := dictValuesUptoRow, standIns := [], harness := (true, "b6f9759510317fab8c93027d6fcf5cc7aba73887a561a179ca6c15ad1cff212d"), looks := true }, kinds := [], alts := [], laidByText := true, laidKinds := [.data, .pinned], laidTests := true, laidLooks := .later }
def DictValuesUptoCardSaid : Prop := Claim7.holds Tryz.pinned (.plain (OpenSpec.upto dictValuesSpec)) dictValuesUptoCard
end Rows
end Go.Proofs.YtffbcccbhofbpaaGreatDoor
