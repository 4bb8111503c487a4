/- Called with any list of texts and any list of numbers, the law DecimalReads returns true and leaves its argument as it was. Conditions: those of the given card alone (the listed library tables and errors hold what the program's text lays; the argument can be read as data). -/
import Derived.Test.YtabgilmehehbjaaDoorZ1m
import Derived.Test.YtabgilmehehbjaaDoorTie
import Derived.Test.YtabgilmehehbjaaDoorCards
import Derived.SevenTiedAt
namespace Go.Proofs.YtabgilmehehbjaaDoor
open Go
theorem readsCard : Rows.DecimalReadsCardSaid :=
  Claim7.holds_tied_plain_at .later [] [.data, .data, .data, .data, .sentinel, .sentinel, .pinned] true (true, "61503a7449abe1a1375ea8110d23d3108516a5c188c69f48d87cad1cdbe1fcf5") true
    readsHolds (fun _ h => by cases h) (by kernel_rfl) (fun _ h => by cases h) decimalReads_row_tie rfl ⟨rfl, rfl⟩ (by kernel_rfl) rfl
    (fun f fn hf hfn => by
      obtain rfl : f = 3 := Option.some.inj ((show Tryd.prog.funcNamed "diptych/diptychlaw1.DecimalReads" = some 3 by kernel_rfl).symm.trans hf) |>.symm
      obtain rfl : fn = Tryd.f3 := (Option.some.inj (Tryd.func3.symm.trans hfn)).symm
      exact ⟨by kernel_rfl, fun j t ht => by
        rw [Tryd.params3] at ht
        have h3 : t = 25 := by
          rcases j with _ | j
          · simpa using ht.symm
          · simp at ht
        subst h3
        exact (show Tryd.prog.wantsStandIn 25 = false by kernel_rfl)⟩)
    (by kernel_rfl)
#print axioms readsCard
end Go.Proofs.YtabgilmehehbjaaDoor
