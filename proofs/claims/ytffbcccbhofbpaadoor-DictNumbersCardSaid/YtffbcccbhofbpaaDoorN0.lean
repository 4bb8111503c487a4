/- Two words on new blocks; whether a truth is true. -/
import Derived.Test.YtffbcccbhofbpaaDoorA0
import Derived.Test.YtffbcccbhofbpaaDoorS1
namespace Go.Proofs.YtffbcccbhofbpaaDoor
open Go.RowKit

theorem below1 (w : World) (o : Obj) : Below w.heap.size w (w.alloc o) := (Below.refl _ _).alloc (Nat.le_refl _) _
theorem below2 (w : World) (o p : Obj) : Below w.heap.size w ((w.alloc o).alloc p) := (below1 w o).alloc (by simp) _

theorem truthOfAt (b : Bool) (w : World) : Calls Tryd.prog 80 #[.bool b] w fun e w' => e = .returned (.int .i64 (if b then 1 else 0)) ∧ w = w' := by
  cases b
  all_goals
    go_enter Tryd.func80, Tryd.ntmps80
    go_wp2_with fail
    go_ret
    exact ⟨rfl, rfl⟩

end Go.Proofs.YtffbcccbhofbpaaDoor
