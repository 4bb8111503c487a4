/- The waking question: what is unknown beside what is false. -/
import Derived.Test.YtdnijfkiebpnpaaL1
import Derived.Test.YtdnijfkiebpnpaaL2
import Derived.Test.YtdnijfkiebpnpaaL3
import Derived.Test.YtdnijfkiebpnpaaL4
namespace Go.Proofs.Ytdnijfkiebpnpaa
open Go.RowKit

theorem below_then {B : Nat} {w W w' : World} (I : Below B w W) (hB : B ≤ W.heap.size) (h : Below W.heap.size W w') : Below B w w' ∧ B ≤ w'.heap.size := ⟨I.trans (h.mono hB), Nat.le_trans hB h.size⟩

theorem wakesAt (w : World) : Calls Try.prog 15 #[] w fun e w' => e = .returned (.bool true) ∧ Below w.heap.size w w' := by
  have c1 : ∀ W, Calls Try.prog 9 #[.int .i64 0, .int .i64 2] W fun e w' => e = .returned (.int .i64 0) ∧ Below W.heap.size W w' := fun W => andAt 0 2 W
  have c2 : ∀ W, Calls Try.prog 11 #[.int .i64 1, .int .i64 2] W fun e w' => e = .returned (.int .i64 1) ∧ Below W.heap.size W w' := fun W => orAt 1 2 W
  have c3 : ∀ W, Calls Try.prog 7 #[.int .i64 1] W fun e w' => e = .returned (.int .i64 0) ∧ Below W.heap.size W w' := fun W => notAt 1 W
  have c4 : ∀ W, Calls Try.prog 13 #[.int .i64 1, .int .i64 0] W fun e w' => e = .returned (.int .i64 1) ∧ Below W.heap.size W w' := fun W => xorAt 1 0 W
  have I := And.intro (Below.refl w.heap.size w) (Nat.le_refl w.heap.size)
  go_enter Try.func15, Try.ntmps15
  go_wp2_with (first
    | (go_at_call 9; (with_reducible refine (c1 _).mono ?_); rintro e w' ⟨rfl, hb⟩; replace I := below_then I.1 I.2 hb; clear hb)
    | (go_at_call 11; (with_reducible refine (c2 _).mono ?_); rintro e w' ⟨rfl, hb⟩; replace I := below_then I.1 I.2 hb; clear hb)
    | (go_at_call 7; (with_reducible refine (c3 _).mono ?_); rintro e w' ⟨rfl, hb⟩; replace I := below_then I.1 I.2 hb; clear hb)
    | (go_at_call 13; (with_reducible refine (c4 _).mono ?_); rintro e w' ⟨rfl, hb⟩; replace I := below_then I.1 I.2 hb; clear hb))
  go_ret
  exact ⟨rfl, I.1⟩
end Go.Proofs.Ytdnijfkiebpnpaa
