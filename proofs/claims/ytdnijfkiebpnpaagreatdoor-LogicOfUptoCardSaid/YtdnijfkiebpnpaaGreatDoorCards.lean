/-
  DERIVED. GIVEN WITH THE SEED: THE CARDS: each row of YtdnijfkiebpnpaaGreatDoorRows.lean that lists a variable, with what it lists TIED to the program's text (the seventh form; the later family's looks); each row that meets fmt, with fmt's text TOLD by the authors' own Lean function (tested against real Go, not proved from fmt's source: count such statements apart). THE CARD IS WHAT COUNTS. Prove the row's statement (the work); the ties are given (YtdnijfkiebpnpaaGreatDoorTie.lean); close each card by the builder's one call (the guide's Derived/Test/ToyasCard.lean, 'card_holds'). Laid BY PROGRAM, IN A SANDBOX (cutbox-door.mjs). By AI agents, Wed Nov 11 2026. No macro, syntax, notation, axiom, sorry.
-/
import Derived.Test.YtdnijfkiebpnpaaGreatDoorRows
import GoSem.ClaimSeven
namespace Go.Proofs.YtdnijfkiebpnpaaGreatDoor
namespace Rows

/-- THE TIED CARD OF 'diptychlaw3.LogicOf'. -/
def logicOfCard : Claim7 := { stood := { row := logicOfRow, standIns := [], harness := (true, "539867f08e7917788df688bcb9ee69c904a23a80ea102195610449d1cc0fdab3"), looks := true }, kinds := [], alts := [], laidByText := true, laidKinds := [.data, .data, .data, .data, .pinned], laidTests := true, laidLooks := .later }
def LogicOfCardSaid : Prop := Claim7.holds Tryz.pinned (.plain (OpenSpec.ofChange logicOfSpec)) logicOfCard

/-- THE SECOND FORM's CARD OF 'diptychlaw3.LogicOf'. -/
def logicOfUptoCard : Claim7 := { stood := { row := logicOfUptoRow, standIns := [], harness := (true, "539867f08e7917788df688bcb9ee69c904a23a80ea102195610449d1cc0fdab3"), looks := true }, kinds := [], alts := [], laidByText := true, laidKinds := [.data, .data, .data, .data, .pinned], laidTests := true, laidLooks := .later }
def LogicOfUptoCardSaid : Prop := Claim7.holds Tryz.pinned (.plain (OpenSpec.upto logicOfSpec)) logicOfUptoCard
end Rows
end Go.Proofs.YtdnijfkiebpnpaaGreatDoor
