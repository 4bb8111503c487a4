/- Called with any list of texts and any list of numbers, the law DecimalReckons returns true and leaves its argument as it was. Conditions: those of the given card alone (the listed library tables hold what the program's text lays; the argument can be read as data). -/
import Derived.Test.YtabgilmehehbjaaDoorY5m
import Derived.Test.YtabgilmehehbjaaDoorTie
import Derived.Test.YtabgilmehehbjaaDoorCards
import Derived.SevenTiedAt
namespace Go.Proofs.YtabgilmehehbjaaDoor
open Go
theorem reckonsCard : Rows.DecimalReckonsCardSaid :=
  Claim7.holds_tied_plain_at .later [] [.data, .data, .data, .data, .pinned] true (true, "61503a7449abe1a1375ea8110d23d3108516a5c188c69f48d87cad1cdbe1fcf5") true
    reckonsHolds (fun _ h => by cases h) (by kernel_rfl) (fun _ h => by cases h) decimalReckons_row_tie rfl ⟨rfl, rfl⟩ (by kernel_rfl) rfl
    (fun f fn hf hfn => by
      obtain rfl : f = 4 := Option.some.inj ((show Tryd.prog.funcNamed "diptych/diptychlaw1.DecimalReckons" = some 4 by kernel_rfl).symm.trans hf) |>.symm
      obtain rfl : fn = Tryd.f4 := (Option.some.inj (Tryd.func4.symm.trans hfn)).symm
      exact ⟨by kernel_rfl, fun j t ht => by
        rw [Tryd.params4] at ht
        have h3 : t = 25 := by
          rcases j with _ | j
          · simpa using ht.symm
          · simp at ht
        subst h3
        exact (show Tryd.prog.wantsStandIn 25 = false by kernel_rfl)⟩)
    (by kernel_rfl)
#print axioms reckonsCard
end Go.Proofs.YtabgilmehehbjaaDoor
