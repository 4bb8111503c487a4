/- Or. -/
import Derived.Test.YtdnijfkiebpnpaaL0
namespace Go.Proofs.Ytdnijfkiebpnpaa
open Go.RowKit

set_option maxHeartbeats 1600000 in
theorem orAt (a b : Int) (w : World) : Calls Try.prog 11 #[.int .i64 a, .int .i64 b] w fun e w' => e = .returned (.int .i64 (orT (tr a) (tr b))) ∧ Below w.heap.size w w' := by
  have hc := fun w => orUnknownAt a w
  have hd := fun w => orUnknownAt b w
  rcases tr_cases a with h | h | h
  all_goals
    rcases tr_cases b with g | g | g
    all_goals
      rw [h] at hc ⊢
      rw [g] at hd ⊢
      clear h g
      go_enter Try.func11, Try.ntmps11
      go_wp2_with fail
      go_quiet ((go_at_call 24; first | exact Calls.quiet_of_same (hc _) | exact Calls.quiet_of_same (hd _)))
      go_wp2_with fail
      go_ret
      exact ⟨rfl, below_drewN (below1 _ _) _⟩
end Go.Proofs.Ytdnijfkiebpnpaa
