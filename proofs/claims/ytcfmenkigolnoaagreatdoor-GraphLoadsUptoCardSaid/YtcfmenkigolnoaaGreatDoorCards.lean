/-
  DERIVED. GIVEN WITH THE SEED: THE CARDS: each row of YtcfmenkigolnoaaGreatDoorRows.lean that lists a variable, with what it lists TIED to the program's text (the seventh form; the later family's looks); each row that meets fmt, with fmt's text TOLD by the authors' own Lean function (tested against real Go, not proved from fmt's source: count such statements apart). THE CARD IS WHAT COUNTS. Prove the row's statement (the work); the ties are given (YtcfmenkigolnoaaGreatDoorTie.lean); close each card by the builder's one call (the guide's Derived/Test/ToyasCard.lean, 'card_holds'). Laid BY PROGRAM, IN A SANDBOX (cutbox-door.mjs). By AI agents, Wed Nov 11 2026. No macro, syntax, notation, axiom, sorry.
-/
import Derived.Test.YtcfmenkigolnoaaGreatDoorRows
import GoSem.ClaimSeven
namespace Go.Proofs.YtcfmenkigolnoaaGreatDoor
namespace Rows

/-- THE TIED CARD OF 'diptychlaw6.GraphLoads'. -/
def graphLoadsCard : Claim7 := { stood := { row := graphLoadsRow, standIns := [], harness := (true, "689e6b55dbe1ac66cbf209ffbd664e9fa5656687f9c442fbec55e366b5cc94a1"), looks := true }, kinds := [], alts := [], laidByText := true, laidKinds := [.data, .pinned], laidTests := true, laidLooks := .later }
def GraphLoadsCardSaid : Prop := Claim7.holds Tryz.pinned (.plain (OpenSpec.ofChange graphLoadsSpec)) graphLoadsCard

/-- THE TIED CARD OF 'diptychlaw6.GraphAsks'. -/
def graphAsksCard : Claim7 := { stood := { row := graphAsksRow, standIns := [], harness := (true, "689e6b55dbe1ac66cbf209ffbd664e9fa5656687f9c442fbec55e366b5cc94a1"), looks := true }, kinds := [], alts := [], laidByText := true, laidKinds := [.data, .pinned], laidTests := true, laidLooks := .later }
def GraphAsksCardSaid : Prop := Claim7.holds Tryz.pinned (.plain (OpenSpec.ofChange graphAsksSpec)) graphAsksCard

/-- THE TIED CARD OF 'diptychlaw6.GraphLabels'. -/
def graphLabelsCard : Claim7 := { stood := { row := graphLabelsRow, standIns := [], harness := (true, "689e6b55dbe1ac66cbf209ffbd664e9fa5656687f9c442fbec55e366b5cc94a1"), looks := true }, kinds := [], alts := [], laidByText := true, laidKinds := [.data, .pinned], laidTests := true, laidLooks := .later }
def GraphLabelsCardSaid : Prop := Claim7.holds Tryz.pinned (.plain (OpenSpec.ofChange graphLabelsSpec)) graphLabelsCard

/-- THE TIED CARD OF 'diptychlaw6.GraphEdges'. -/
def graphEdgesCard : Claim7 := { stood := { row := graphEdgesRow, standIns := [], harness := (true, "689e6b55dbe1ac66cbf209ffbd664e9fa5656687f9c442fbec55e366b5cc94a1"), looks := true }, kinds := [], alts := [], laidByText := true, laidKinds := [.data, .pinned], laidTests := true, laidLooks := .later }
def GraphEdgesCardSaid : Prop := Claim7.holds Tryz.pinned (.plain (OpenSpec.ofChange graphEdgesSpec)) graphEdgesCard

/-- THE TIED CARD OF 'diptychlaw6.GraphProps'. -/
def graphPropsCard : Claim7 := { stood := { row := graphPropsRow, standIns := [], harness := (true, "689e6b55dbe1ac66cbf209ffbd664e9fa5656687f9c442fbec55e366b5cc94a1"), looks := true }, kinds := [], alts := [], laidByText := true, laidKinds := [.data, .pinned], laidTests := true, laidLooks := .later }
def GraphPropsCardSaid : Prop := Claim7.holds Tryz.pinned (.plain (OpenSpec.ofChange graphPropsSpec)) graphPropsCard

/-- THE SECOND FORM's CARD OF 'diptychlaw6.GraphLoads'. -/
def graphLoadsUptoCard : Claim7 := { stood := { row := graphLoadsUptoRow, standIns := [], harness := (true, "689e6b55dbe1ac66cbf209ffbd664e9fa5656687f9c442fbec55e366b5cc94a1"), looks := true }, kinds := [], alts := [], laidByText := true, laidKinds := [.data, .pinned], laidTests := true, laidLooks := .later }
def GraphLoadsUptoCardSaid : Prop := Claim7.holds Tryz.pinned (.plain (OpenSpec.upto graphLoadsSpec)) graphLoadsUptoCard

/-- THE SECOND FORM's CARD OF 'diptychlaw6.GraphAsks'. -/
def graphAsksUptoCard : Claim7 := { stood := { row := graphAsksUptoRow, standIns := [], harness := (true, "689e6b55dbe1ac66cbf209ffbd664e9fa5656687f9c442fbec55e366b5cc94a1"), looks := true }, kinds := [], alts := [], laidByText := true, laidKinds := [.data, .pinned], laidTests := true, laidLooks := .later }
def GraphAsksUptoCardSaid : Prop := Claim7.holds Tryz.pinned (.plain (OpenSpec.upto graphAsksSpec)) graphAsksUptoCard

/-- THE SECOND FORM's CARD OF 'diptychlaw6.GraphLabels'. -/
def graphLabelsUptoCard : Claim7 := { stood := { row := graphLabelsUptoRow, standIns := [], harness := (true, "689e6b55dbe1ac66cbf209ffbd664e9fa5656687f9c442fbec55e366b5cc94a1"), looks := true }, kinds := [], alts := [], laidByText := true, laidKinds := [.data, .pinned], laidTests := true, laidLooks := .later }
def GraphLabelsUptoCardSaid : Prop := Claim7.holds Tryz.pinned (.plain (OpenSpec.upto graphLabelsSpec)) graphLabelsUptoCard

/-- THE SECOND FORM's CARD OF 'diptychlaw6.GraphEdges'. -/
def graphEdgesUptoCard : Claim7 := { stood := { row := graphEdgesUptoRow, standIns := [], harness := (true, "689e6b55dbe1ac66cbf209ffbd664e9fa5656687f9c442fbec55e366b5cc94a1"), looks := true }, kinds := [], alts := [], laidByText := true, laidKinds := [.data, .pinned], laidTests := true, laidLooks := .later }
def GraphEdgesUptoCardSaid : Prop := Claim7.holds Tryz.pinned (.plain (OpenSpec.upto graphEdgesSpec)) graphEdgesUptoCard

/-- THE SECOND FORM's CARD OF 'diptychlaw6.GraphProps'. -/
def graphPropsUptoCard : Claim7 := { stood := { row := graphPropsUptoRow, standIns := [], harness := (true, "689e6b55dbe1ac66cbf209ffbd664e9fa5656687f9c442fbec55e366b5cc94a1"), looks := true }, kinds := [], alts := [], laidByText := true, laidKinds := [.data, .pinned], laidTests := true, laidLooks := .later }
def GraphPropsUptoCardSaid : Prop := Claim7.holds Tryz.pinned (.plain (OpenSpec.upto graphPropsSpec)) graphPropsUptoCard
end Rows
end Go.Proofs.YtcfmenkigolnoaaGreatDoor
