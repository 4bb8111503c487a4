/-
  DERIVED. GIVEN WITH THE SEED: THE CARDS: each row of YteclpnfckjfibaaGreatDoorRows.lean that lists a variable, with what it lists TIED to the program's text (the seventh form; the later family's looks); each row that meets fmt, with fmt's text TOLD by the authors' own Lean function (tested against real Go, not proved from fmt's source: count such statements apart). THE CARD IS WHAT COUNTS. Prove the row's statement (the work); the ties are given (YteclpnfckjfibaaGreatDoorTie.lean); close each card by the builder's one call (the guide's Derived/Test/ToyasCard.lean, 'card_holds'). Laid BY PROGRAM, IN A SANDBOX (cutbox-door.mjs). By AI agents, Wed Nov 11 2026. No macro, syntax, notation, axiom, sorry.
-/
import Derived.Test.YteclpnfckjfibaaGreatDoorRows
import GoSem.ClaimSeven
namespace Go.Proofs.YteclpnfckjfibaaGreatDoor
namespace Rows

/-- THE TIED CARD OF 'diptychlaw9.RowsExact'. -/
def rowsExactCard : Claim7 := { stood := { row := rowsExactRow, standIns := [], harness := (true, "b7de91539e79902b91c2d9e6f3dc91e6f00c63d9d52b81cb8d04ea1cf630fb0b"), looks := true }, kinds := [], alts := [], laidByText := true, laidKinds := [.data, .data, .data, .data, .pinned], laidTests := true, laidLooks := .later }
def RowsExactCardSaid : Prop := Claim7.holds Tryz.pinned (.plain (OpenSpec.ofChange rowsExactSpec)) rowsExactCard

/-- THE TIED CARD OF 'diptychlaw9.RowsFits'. -/
def rowsFitsCard : Claim7 := { stood := { row := rowsFitsRow, standIns := [], harness := (true, "b7de91539e79902b91c2d9e6f3dc91e6f00c63d9d52b81cb8d04ea1cf630fb0b"), looks := true }, kinds := [], alts := [], laidByText := true, laidKinds := [.data, .data, .data, .data, .pinned], laidTests := true, laidLooks := .later }
def RowsFitsCardSaid : Prop := Claim7.holds Tryz.pinned (.plain (OpenSpec.ofChange rowsFitsSpec)) rowsFitsCard

/-- THE TIED CARD OF 'diptychlaw9.RowsJoins'. -/
def rowsJoinsCard : Claim7 := { stood := { row := rowsJoinsRow, standIns := [], harness := (true, "b7de91539e79902b91c2d9e6f3dc91e6f00c63d9d52b81cb8d04ea1cf630fb0b"), looks := true }, kinds := [], alts := [], laidByText := true, laidKinds := [.data, .pinned], laidTests := true, laidLooks := .later }
def RowsJoinsCardSaid : Prop := Claim7.holds Tryz.pinned (.plain (OpenSpec.ofChange rowsJoinsSpec)) rowsJoinsCard

/-- THE TIED CARD OF 'diptychlaw9.RowsParts'. -/
def rowsPartsCard : Claim7 := { stood := { row := rowsPartsRow, standIns := [], harness := (true, "b7de91539e79902b91c2d9e6f3dc91e6f00c63d9d52b81cb8d04ea1cf630fb0b"), looks := true }, kinds := [], alts := [], laidByText := true, laidKinds := [.data, .pinned], laidTests := true, laidLooks := .later }
def RowsPartsCardSaid : Prop := Claim7.holds Tryz.pinned (.plain (OpenSpec.ofChange rowsPartsSpec)) rowsPartsCard

/-- THE TIED CARD OF 'diptychlaw9.RowsBags'. -/
def rowsBagsCard : Claim7 := { stood := { row := rowsBagsRow, standIns := [], harness := (true, "b7de91539e79902b91c2d9e6f3dc91e6f00c63d9d52b81cb8d04ea1cf630fb0b"), looks := true }, kinds := [], alts := [], laidByText := true, laidKinds := [.data, .data, .data, .data, .pinned], laidTests := true, laidLooks := .later }
def RowsBagsCardSaid : Prop := Claim7.holds Tryz.pinned (.plain (OpenSpec.ofChange rowsBagsSpec)) rowsBagsCard

/-- THE TIED CARD OF 'diptychlaw13.JoinExact'. -/
def joinExactCard : Claim7 := { stood := { row := joinExactRow, standIns := [], harness := (true, "b7de91539e79902b91c2d9e6f3dc91e6f00c63d9d52b81cb8d04ea1cf630fb0b"), looks := true }, kinds := [], alts := [], laidByText := true, laidKinds := [.data, .pinned], laidTests := true, laidLooks := .later }
def JoinExactCardSaid : Prop := Claim7.holds Tryz.pinned (.plain (OpenSpec.ofChange joinExactSpec)) joinExactCard

/-- THE TIED CARD OF 'diptychlaw13.JoinParts'. -/
def joinPartsCard : Claim7 := { stood := { row := joinPartsRow, standIns := [], harness := (true, "b7de91539e79902b91c2d9e6f3dc91e6f00c63d9d52b81cb8d04ea1cf630fb0b"), looks := true }, kinds := [], alts := [], laidByText := true, laidKinds := [.data, .pinned], laidTests := true, laidLooks := .later }
def JoinPartsCardSaid : Prop := Claim7.holds Tryz.pinned (.plain (OpenSpec.ofChange joinPartsSpec)) joinPartsCard

/-- THE SECOND FORM's CARD OF 'diptychlaw9.RowsExact'. -/
def rowsExactUptoCard : Claim7 := { stood := { row := rowsExactUptoRow, standIns := [], harness := (true, "b7de91539e79902b91c2d9e6f3dc91e6f00c63d9d52b81cb8d04ea1cf630fb0b"), looks := true }, kinds := [], alts := [], laidByText := true, laidKinds := [.data, .data, .data, .data, .pinned], laidTests := true, laidLooks := .later }
def RowsExactUptoCardSaid : Prop := Claim7.holds Tryz.pinned (.plain (OpenSpec.upto rowsExactSpec)) rowsExactUptoCard

/-- THE SECOND FORM's CARD OF 'diptychlaw9.RowsFits'. -/
def rowsFitsUptoCard : Claim7 := { stood := { row := rowsFitsUptoRow, standIns := [], harness := (true, "b7de91539e79902b91c2d9e6f3dc91e6f00c63d9d52b81cb8d04ea1cf630fb0b"), looks := true }, kinds := [], alts := [], laidByText := true, laidKinds := [.data, .data, .data, .data, .pinned], laidTests := true, laidLooks := .later }
def RowsFitsUptoCardSaid : Prop := Claim7.holds Tryz.pinned (.plain (OpenSpec.upto rowsFitsSpec)) rowsFitsUptoCard

/-- THE SECOND FORM's CARD OF 'diptychlaw9.RowsJoins'. -/
def rowsJoinsUptoCard : Claim7 := { stood := { row := rowsJoinsUptoRow, standIns := [], harness := (true, "b7de91539e79902b91c2d9e6f3dc91e6f00c63d9d52b81cb8d04ea1cf630fb0b"), looks := true }, kinds := [], alts := [], laidByText := true, laidKinds := [.data, .pinned], laidTests := true, laidLooks := .later }
def RowsJoinsUptoCardSaid : Prop := Claim7.holds Tryz.pinned (.plain (OpenSpec.upto rowsJoinsSpec)) rowsJoinsUptoCard

/-- THE SECOND FORM's CARD OF 'diptychlaw9.RowsParts'. -/
def rowsPartsUptoCard : Claim7 := { stood := { row := rowsPartsUptoRow, standIns := [], harness := (true, "b7de91539e79902b91c2d9e6f3dc91e6f00c63d9d52b81cb8d04ea1cf630fb0b"), looks := true }, kinds := [], alts := [], laidByText := true, laidKinds := [.data, .pinned], laidTests := true, laidLooks := .later }
def RowsPartsUptoCardSaid : Prop := Claim7.holds Tryz.pinned (.plain (OpenSpec.upto rowsPartsSpec)) rowsPartsUptoCard

/-- THE SECOND FORM's CARD OF 'diptychlaw9.RowsBags'. -/
def rowsBagsUptoCard : Claim7 := { stood := { row := rowsBagsUptoRow, standIns := [], harness := (true, "b7de91539e79902b91c2d9e6f3dc91e6f00c63d9d52b81cb8d04ea1cf630fb0b"), looks := true }, kinds := [], alts := [], laidByText := true, laidKinds := [.data, .data, .data, .data, .pinned], laidTests := true, laidLooks := .later }
def RowsBagsUptoCardSaid : Prop := Claim7.holds Tryz.pinned (.plain (OpenSpec.upto rowsBagsSpec)) rowsBagsUptoCard

/-- THE SECOND FORM's CARD OF 'diptychlaw13.JoinExact'. -/
def joinExactUptoCard : Claim7 := { stood := { row := joinExactUptoRow, standIns := [], harness := (true, "b7de91539e79902b91c2d9e6f3dc91e6f00c63d9d52b81cb8d04ea1cf630fb0b"), looks := true }, kinds := [], alts := [], laidByText := true, laidKinds := [.data, .pinned], laidTests := true, laidLooks := .later }
def JoinExactUptoCardSaid : Prop := Claim7.holds Tryz.pinned (.plain (OpenSpec.upto joinExactSpec)) joinExactUptoCard

/-- THE SECOND FORM's CARD OF 'diptychlaw13.JoinParts'. -/
def joinPartsUptoCard : Claim7 := { stood := { row := joinPartsUptoRow, standIns := [], harness := (true, "b7de91539e79902b91c2d9e6f3dc91e6f00c63d9d52b81cb8d04ea1cf630fb0b"), looks := true }, kinds := [], alts := [], laidByText := true, laidKinds := [.data, .pinned], laidTests := true, laidLooks := .later }
def JoinPartsUptoCardSaid : Prop := Claim7.holds Tryz.pinned (.plain (OpenSpec.upto joinPartsSpec)) joinPartsUptoCard
end Rows
end Go.Proofs.YteclpnfckjfibaaGreatDoor
