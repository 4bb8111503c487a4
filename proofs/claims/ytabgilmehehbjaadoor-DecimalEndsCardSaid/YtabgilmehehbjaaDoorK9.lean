/- Called without an argument, the law DecimalEnds returns true. Conditions: those of the given card alone (the listed library tables and errors hold what the program's text lays). -/
import Derived.Test.YtabgilmehehbjaaDoorT4
import Derived.Test.YtabgilmehehbjaaDoorTie
import Derived.Test.YtabgilmehehbjaaDoorCards
import Derived.SevenTiedAt
namespace Go.Proofs.YtabgilmehehbjaaDoor
open Go
theorem endsCard : Rows.DecimalEndsCardSaid :=
  Claim7.holds_tied_plain_at .later [] [.data, .data, .data, .data, .sentinel, .sentinel, .pinned] true (true, "61503a7449abe1a1375ea8110d23d3108516a5c188c69f48d87cad1cdbe1fcf5") true
    endsHolds (fun _ h => by cases h) (by kernel_rfl) (fun _ h => by cases h) decimalEnds_row_tie rfl ⟨rfl, rfl⟩ (by kernel_rfl) rfl
    (fun f fn hf hfn => by
      obtain rfl : f = 9 := Option.some.inj ((show Tryd.prog.funcNamed "diptych/diptychlaw1.DecimalEnds" = some 9 by kernel_rfl).symm.trans hf) |>.symm
      obtain rfl : fn = Tryd.f9 := (Option.some.inj (Tryd.func9.symm.trans hfn)).symm
      exact ⟨by kernel_rfl, fun j t ht => by
        rw [Tryd.params9] at ht
        simp at ht⟩)
    (by kernel_rfl)
#print axioms endsCard
end Go.Proofs.YtabgilmehehbjaaDoor
