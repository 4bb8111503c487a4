/- Three truth values: what Not, And, Or, Xor make of them; the small functions. -/
import Derived.Test.YtdnijfkiebpnpaaChecked
import Derived.WalkKit
import Derived.Below
import Derived.LoopTactic
import Derived.ProofKit
import Derived.Outline
import Derived.Deep.QuietTactic
import Derived.BigQuiet
import Derived.WalkSmall
namespace Go.Proofs.Ytdnijfkiebpnpaa
open Go.RowKit

/-- A number as a truth value. -/
def tr (a : Int) : Int := if a = 0 then 0 else if a = 1 then 1 else 2
def notT (a : Int) : Int := if a = 0 then 1 else if a = 1 then 0 else 2
def andT (a b : Int) : Int := if a = 0 ∨ b = 0 then 0 else if a = 1 ∧ b = 1 then 1 else 2
def orT (a b : Int) : Int := if a = 1 ∨ b = 1 then 1 else if a = 0 ∧ b = 0 then 0 else 2
def xorT (a b : Int) : Int := if (a = 0 ∨ a = 1) ∧ (b = 0 ∨ b = 1) then (if a = b then 0 else 1) else 2

theorem below1 (w : World) (o : Obj) : Below w.heap.size w (w.alloc o) := (Below.refl _ _).alloc (Nat.le_refl _) _

theorem isTruthAt (a : Int) (w : World) : Calls Try.prog 27 #[.int .i64 a] w fun e w' => e = .returned (.bool (decide (0 ≤ a) && decide (a < 3))) ∧ w' = w := by
  by_cases h : 0 ≤ a
  · go_enter Try.func27, Try.ntmps27
    go_wp2_with fail
    go_ret
    exact ⟨by simp [h], rfl⟩
  · go_enter Try.func27, Try.ntmps27
    go_wp2_with fail
    go_ret
    exact ⟨by simp; omega, rfl⟩
theorem tr_cases (a : Int) : tr a = 0 ∨ tr a = 1 ∨ tr a = 2 := by
  unfold tr
  split
  · exact .inl rfl
  · split
    · exact .inr (.inl rfl)
    · exact .inr (.inr rfl)
theorem orUnknownAt (a : Int) (w : World) : Calls Try.prog 24 #[.int .i64 a] w fun e w' => e = .returned (.int .i64 (tr a)) ∧ w' = w := by
  by_cases h : 0 ≤ a ∧ a < 3
  · obtain ⟨h1, h2⟩ := h
    obtain h | h | h : a = 0 ∨ a = 1 ∨ a = 2 := by omega
    all_goals
      subst h
      clear h1 h2
      go_enter Try.func24, Try.ntmps24
      go_wp2_with (go_at_call 27; go_in)
      go_ret
      exact ⟨rfl, rfl⟩
  · have hb : (decide (0 ≤ a) && decide (a < 3)) = false := by simp; omega
    have ht : tr a = 2 := by unfold tr; rw [if_neg (by omega), if_neg (by omega)]
    have hc := isTruthAt a w
    rw [hb] at hc
    rw [ht]
    clear h hb ht
    go_enter Try.func24, Try.ntmps24
    go_wp2_with (go_at_call 27; (with_reducible refine hc.mono ?_); rintro e w' ⟨rfl, rfl⟩)
    go_ret
    exact ⟨rfl, rfl⟩
theorem notAt (a : Int) (w : World) : Calls Try.prog 7 #[.int .i64 a] w fun e w' => e = .returned (.int .i64 (notT (tr a))) ∧ Below w.heap.size w w' := by
  have hc := fun w => orUnknownAt a w
  rcases tr_cases a with h | h | h
  all_goals
    rw [h] at hc ⊢
    clear h
    go_enter Try.func7, Try.ntmps7
    go_wp2_with (go_at_call 24; (with_reducible refine (hc _).mono ?_); rintro e w' ⟨rfl, rfl⟩)
    go_ret
    exact ⟨rfl, below1 _ _⟩
end Go.Proofs.Ytdnijfkiebpnpaa
