/-
  DERIVED. GIVEN WITH THE SEED: THE CARDS: each row of YtdnijfkiebpnpaaDoorRows.lean that lists a variable, with what it lists TIED to the program's text (the seventh form; the later family's looks); each row that meets fmt, with fmt's text TOLD by the authors' own Lean function (tested against real Go, not proved from fmt's source: count such statements apart). THE CARD IS WHAT COUNTS. Prove the row's statement (the work); the ties are given (YtdnijfkiebpnpaaDoorTie.lean); close each card by the builder's one call (the guide's Derived/Test/ToyasCard.lean, 'card_holds'). Laid BY PROGRAM, IN A SANDBOX (cutbox-door.mjs). By AI agents, Wed Nov 11 2026. No macro, syntax, notation, axiom, sorry.
-/
import Derived.Test.YtdnijfkiebpnpaaDoorRows
import GoSem.ClaimSeven
namespace Go.Proofs.YtdnijfkiebpnpaaDoor
namespace Rows

/-- THE TIED CARD OF 'diptychlaw3.LogicValues'. -/
def logicValuesCard : Claim7 := { stood := { row := logicValuesRow, standIns := [], harness := (true, "7052152e10c8a212b0b0e70de00d71262bb42931e2c1f60d23a286201db60162"), looks := true }, kinds := [], alts := [], laidByText := true, laidKinds := [.data, .data, .data, .data, .pinned], laidTests := true, laidLooks := .later }
def LogicValuesCardSaid : Prop := Claim7.holds Tryd.pinned (.plain (OpenSpec.ofChange logicValuesSpec)) logicValuesCard

/-- THE SECOND FORM's CARD OF 'diptychlaw3.LogicValues'. -/
def logicValuesUptoCard : Claim7 := { stood := { row := logicValuesUptoRow, standIns := [], harness := (true, "7052152e10c8a212b0b0e70de00d71262bb42931e2c1f60d23a286201db60162"), looks := true }, kinds := [], alts := [], laidByText := true, laidKinds := [.data, .data, .data, .data, .pinned], laidTests := true, laidLooks := .later }
def LogicValuesUptoCardSaid : Prop := Claim7.holds Tryd.pinned (.plain (OpenSpec.upto logicValuesSpec)) logicValuesUptoCard
end Rows
end Go.Proofs.YtdnijfkiebpnpaaDoor
