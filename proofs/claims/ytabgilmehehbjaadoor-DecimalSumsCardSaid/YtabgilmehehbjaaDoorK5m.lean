/- Called with any list of texts and any list of numbers, the law DecimalSums returns true and leaves its argument as it was. Conditions: those of the given card alone (the listed library tables hold what the program's text lays; the argument can be read as data). -/
import Derived.Test.YtabgilmehehbjaaDoorW9m
import Derived.Test.YtabgilmehehbjaaDoorTie
import Derived.Test.YtabgilmehehbjaaDoorCards
import Derived.SevenTiedAt
namespace Go.Proofs.YtabgilmehehbjaaDoor
open Go
theorem sumsCard : Rows.DecimalSumsCardSaid :=
  Claim7.holds_tied_plain_at .later [] [.data, .data, .data, .data, .pinned] true (true, "61503a7449abe1a1375ea8110d23d3108516a5c188c69f48d87cad1cdbe1fcf5") true
    sumsHolds (fun _ h => by cases h) (by kernel_rfl) (fun _ h => by cases h) decimalSums_row_tie rfl ⟨rfl, rfl⟩ (by kernel_rfl) rfl
    (fun f fn hf hfn => by
      obtain rfl : f = 5 := Option.some.inj ((show Tryd.prog.funcNamed "diptych/diptychlaw1.DecimalSums" = some 5 by kernel_rfl).symm.trans hf) |>.symm
      obtain rfl : fn = Tryd.f5 := (Option.some.inj (Tryd.func5.symm.trans hfn)).symm
      exact ⟨by kernel_rfl, fun j t ht => by
        rw [Tryd.params5] at ht
        have h3 : t = 25 := by
          rcases j with _ | j
          · simpa using ht.symm
          · simp at ht
        subst h3
        exact (show Tryd.prog.wantsStandIn 25 = false by kernel_rfl)⟩)
    (by kernel_rfl)
#print axioms sumsCard
end Go.Proofs.YtabgilmehehbjaaDoor
