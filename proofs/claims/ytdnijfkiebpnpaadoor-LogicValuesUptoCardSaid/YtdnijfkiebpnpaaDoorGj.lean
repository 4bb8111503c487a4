/- Texts of one kind, one behind the other: each says ahead of itself what it shows. -/
import Derived.Test.YtdnijfkiebpnpaaDoorGn
/- Three truth values: what Not, And, Or, Xor make of them; the small functions. -/
namespace Go.Proofs.YtdnijfkiebpnpaaDoor
open Go.RowKit

/-- A number as a truth value. -/
def tr (a : Int) : Int := if a = 0 then 0 else if a = 1 then 1 else 2
def notT (a : Int) : Int := if a = 0 then 1 else if a = 1 then 0 else 2
def andT (a b : Int) : Int := if a = 0 ∨ b = 0 then 0 else if a = 1 ∧ b = 1 then 1 else 2
def orT (a b : Int) : Int := if a = 1 ∨ b = 1 then 1 else if a = 0 ∧ b = 0 then 0 else 2
def xorT (a b : Int) : Int := if (a = 0 ∨ a = 1) ∧ (b = 0 ∨ b = 1) then (if a = b then 0 else 1) else 2


theorem isTruthAt (a : Int) (w : World) : Calls Tryd.prog 27 #[.int .i64 a] w fun e w' => e = .returned (.bool (decide (0 ≤ a) && decide (a < 3))) ∧ w' = w := by
  by_cases h : 0 ≤ a
  · go_enter Tryd.func27, Tryd.ntmps27
    go_wp2_with fail
    go_ret
    exact ⟨by simp [h], rfl⟩
  · go_enter Tryd.func27, Tryd.ntmps27
    go_wp2_with fail
    go_ret
    exact ⟨by simp; omega, rfl⟩
theorem tr_cases (a : Int) : tr a = 0 ∨ tr a = 1 ∨ tr a = 2 := by
  unfold tr
  split
  · exact .inl rfl
  · split
    · exact .inr (.inl rfl)
    · exact .inr (.inr rfl)
theorem orUnknownAt (a : Int) (w : World) : Calls Tryd.prog 13 #[.int .i64 a] w fun e w' => e = .returned (.int .i64 (tr a)) ∧ w' = w := by
  by_cases h : 0 ≤ a ∧ a < 3
  · obtain ⟨h1, h2⟩ := h
    obtain h | h | h : a = 0 ∨ a = 1 ∨ a = 2 := by omega
    all_goals
      subst h
      clear h1 h2
      go_enter Tryd.func13, Tryd.ntmps13
      go_wp2_with (go_at_call 27; go_in)
      go_ret
      exact ⟨rfl, rfl⟩
  · have hb : (decide (0 ≤ a) && decide (a < 3)) = false := by simp; omega
    have ht : tr a = 2 := by unfold tr; rw [if_neg (by omega), if_neg (by omega)]
    have hc := isTruthAt a w
    rw [hb] at hc
    rw [ht]
    clear h hb ht
    go_enter Tryd.func13, Tryd.ntmps13
    go_wp2_with (go_at_call 27; (with_reducible refine hc.mono ?_); rintro e w' ⟨rfl, rfl⟩)
    go_ret
    exact ⟨rfl, rfl⟩
theorem notAt (a : Int) (w : World) : Calls Tryd.prog 7 #[.int .i64 a] w fun e w' => e = .returned (.int .i64 (notT (tr a))) ∧ Below w.heap.size w w' := by
  have hc := fun w => orUnknownAt a w
  rcases tr_cases a with h | h | h
  all_goals
    rw [h] at hc ⊢
    clear h
    go_enter Tryd.func7, Tryd.ntmps7
    go_wp2_with (go_at_call 13; (with_reducible refine (hc _).mono ?_); rintro e w' ⟨rfl, rfl⟩)
    go_ret
    exact ⟨rfl, below1 _ _⟩
end Go.Proofs.YtdnijfkiebpnpaaDoor

/- And. -/
namespace Go.Proofs.YtdnijfkiebpnpaaDoor
open Go.RowKit

set_option maxRecDepth 20000 in
set_option maxHeartbeats 1600000 in
theorem andAt (a b : Int) (w : World) : Calls Tryd.prog 14 #[.int .i64 a, .int .i64 b] w fun e w' => e = .returned (.int .i64 (andT (tr a) (tr b))) ∧ Below w.heap.size w w' := by
  have hc := fun w => orUnknownAt a w
  have hd := fun w => orUnknownAt b w
  rcases tr_cases a with h | h | h
  all_goals
    rcases tr_cases b with g | g | g
    all_goals
      rw [h] at hc ⊢
      rw [g] at hd ⊢
      clear h g
      go_enter Tryd.func14, Tryd.ntmps14
      go_wp2_with fail
      go_quiet ((go_at_call 13; first | exact Calls.quiet_of_same (hc _) | exact Calls.quiet_of_same (hd _)))
      go_wp2_with fail
      go_ret
      exact ⟨rfl, below_drewN (below1 _ _) _⟩
end Go.Proofs.YtdnijfkiebpnpaaDoor

/- Or. -/
namespace Go.Proofs.YtdnijfkiebpnpaaDoor
open Go.RowKit

set_option maxRecDepth 20000 in
set_option maxHeartbeats 1600000 in
theorem orAt (a b : Int) (w : World) : Calls Tryd.prog 15 #[.int .i64 a, .int .i64 b] w fun e w' => e = .returned (.int .i64 (orT (tr a) (tr b))) ∧ Below w.heap.size w w' := by
  have hc := fun w => orUnknownAt a w
  have hd := fun w => orUnknownAt b w
  rcases tr_cases a with h | h | h
  all_goals
    rcases tr_cases b with g | g | g
    all_goals
      rw [h] at hc ⊢
      rw [g] at hd ⊢
      clear h g
      go_enter Tryd.func15, Tryd.ntmps15
      go_wp2_with fail
      go_quiet ((go_at_call 13; first | exact Calls.quiet_of_same (hc _) | exact Calls.quiet_of_same (hd _)))
      go_wp2_with fail
      go_ret
      exact ⟨rfl, below_drewN (below1 _ _) _⟩
end Go.Proofs.YtdnijfkiebpnpaaDoor

/- Xor. -/
namespace Go.Proofs.YtdnijfkiebpnpaaDoor
open Go.RowKit

set_option maxRecDepth 20000 in
set_option maxHeartbeats 1600000 in
theorem xorAt (a b : Int) (w : World) : Calls Tryd.prog 16 #[.int .i64 a, .int .i64 b] w fun e w' => e = .returned (.int .i64 (xorT (tr a) (tr b))) ∧ Below w.heap.size w w' := by
  have hc := fun w => orUnknownAt a w
  have hd := fun w => orUnknownAt b w
  rcases tr_cases a with h | h | h
  all_goals
    rcases tr_cases b with g | g | g
    all_goals
      rw [h] at hc ⊢
      rw [g] at hd ⊢
      clear h g
      go_enter Tryd.func16, Tryd.ntmps16
      go_wp2_with fail
      go_quiet ((go_at_call 13; first | exact Calls.quiet_of_same (hc _) | exact Calls.quiet_of_same (hd _)))
      go_wp2_with fail
      go_ret
      exact ⟨rfl, below_drewN (below1 _ _) _⟩
end Go.Proofs.YtdnijfkiebpnpaaDoor

/- The waking question: what is unknown beside what is false. -/
namespace Go.Proofs.YtdnijfkiebpnpaaDoor
open Go.RowKit

theorem below_then {B : Nat} {w W w' : World} (I : Below B w W) (hB : B ≤ W.heap.size) (h : Below W.heap.size W w') : Below B w w' ∧ B ≤ w'.heap.size := ⟨I.trans (h.mono hB), Nat.le_trans hB h.size⟩

theorem wakesAt (w : World) : Calls Tryd.prog 8 #[] w fun e w' => e = .returned (.bool true) ∧ Below w.heap.size w w' := by
  have c1 : ∀ W, Calls Tryd.prog 14 #[.int .i64 0, .int .i64 2] W fun e w' => e = .returned (.int .i64 0) ∧ Below W.heap.size W w' := fun W => andAt 0 2 W
  have c2 : ∀ W, Calls Tryd.prog 15 #[.int .i64 1, .int .i64 2] W fun e w' => e = .returned (.int .i64 1) ∧ Below W.heap.size W w' := fun W => orAt 1 2 W
  have c3 : ∀ W, Calls Tryd.prog 7 #[.int .i64 1] W fun e w' => e = .returned (.int .i64 0) ∧ Below W.heap.size W w' := fun W => notAt 1 W
  have c4 : ∀ W, Calls Tryd.prog 16 #[.int .i64 1, .int .i64 0] W fun e w' => e = .returned (.int .i64 1) ∧ Below W.heap.size W w' := fun W => xorAt 1 0 W
  have I := And.intro (Below.refl w.heap.size w) (Nat.le_refl w.heap.size)
  go_enter Tryd.func8, Tryd.ntmps8
  go_wp2_with (first
    | (go_at_call 14; (with_reducible refine (c1 _).mono ?_); rintro e w' ⟨rfl, hb⟩; replace I := below_then I.1 I.2 hb; clear hb)
    | (go_at_call 15; (with_reducible refine (c2 _).mono ?_); rintro e w' ⟨rfl, hb⟩; replace I := below_then I.1 I.2 hb; clear hb)
    | (go_at_call 7; (with_reducible refine (c3 _).mono ?_); rintro e w' ⟨rfl, hb⟩; replace I := below_then I.1 I.2 hb; clear hb)
    | (go_at_call 16; (with_reducible refine (c4 _).mono ?_); rintro e w' ⟨rfl, hb⟩; replace I := below_then I.1 I.2 hb; clear hb))
  go_ret
  exact ⟨rfl, I.1⟩
end Go.Proofs.YtdnijfkiebpnpaaDoor
