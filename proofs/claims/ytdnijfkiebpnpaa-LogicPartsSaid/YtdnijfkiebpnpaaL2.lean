/- The document's own Not, And, Or, Xor. -/
import Derived.Test.YtdnijfkiebpnpaaL0
namespace Go.Proofs.Ytdnijfkiebpnpaa
open Go.RowKit


theorem normAt (a : Int) (w : World) : Calls Try.prog 25 #[.int .i64 a] w fun e w' => e = .returned (.int .i64 (tr a)) ∧ w' = w := by
  by_cases h1 : a = 1
  · subst h1
    go_enter Try.func25, Try.ntmps25
    go_wp2_with fail
    go_ret
    exact ⟨rfl, rfl⟩
  · by_cases h0 : a = 0
    · subst h0
      go_enter Try.func25, Try.ntmps25
      go_wp2_with fail
      go_ret
      exact ⟨rfl, rfl⟩
    · have e0 : (a == 0) = false := by simpa using h0
      have e1 : (a == 1) = false := by simpa using h1
      have ht : tr a = 2 := by unfold tr; rw [if_neg h0, if_neg h1]
      rw [ht]
      clear h0 h1 ht
      go_enter Try.func25, Try.ntmps25
      go_wp2_with fail
      go_ret
      exact ⟨rfl, rfl⟩
theorem rnotAt (a : Int) (w : World) : Calls Try.prog 8 #[.int .i64 a] w fun e w' => e = .returned (.int .i64 (notT (tr a))) ∧ w' = w := by
  have hc := fun w => normAt a w
  rcases tr_cases a with h | h | h
  all_goals
    rw [h] at hc ⊢
    clear h
    go_enter Try.func8, Try.ntmps8
    go_wp2_with (go_at_call 25; (with_reducible refine (hc _).mono ?_); rintro e w' ⟨rfl, rfl⟩)
    go_ret
    exact ⟨rfl, rfl⟩
set_option maxHeartbeats 1600000 in
theorem randAt (a b : Int) (w : World) : Calls Try.prog 10 #[.int .i64 a, .int .i64 b] w fun e w' => e = .returned (.int .i64 (andT (tr a) (tr b))) ∧ w' = w := by
  have hc := fun w => normAt a w
  have hd := fun w => normAt b w
  rcases tr_cases a with h | h | h
  all_goals
    rcases tr_cases b with g | g | g
    all_goals
      rw [h] at hc ⊢
      rw [g] at hd ⊢
      clear h g
      go_enter Try.func10, Try.ntmps10
      go_wp2_with (first
        | (go_at_call 25; (with_reducible refine (hc _).mono ?_); rintro e w' ⟨rfl, rfl⟩)
        | (go_at_call 25; (with_reducible refine (hd _).mono ?_); rintro e w' ⟨rfl, rfl⟩))
      go_ret
      exact ⟨rfl, rfl⟩
theorem tr_known {a : Int} (h : ¬ tr a = 2) : (a = 0 ∨ a = 1) ∧ (tr a = 0 ∨ tr a = 1) := by
  unfold tr at *
  split at h
  · exact ⟨.inl ‹_›, .inl (by simp [*])⟩
  · split at h
    · exact ⟨.inr ‹_›, .inr (by simp [*])⟩
    · exact absurd rfl h
theorem tr_not (a : Int) : tr (notT (tr a)) = notT (tr a) := by
  rcases tr_cases a with h | h | h <;> rw [h] <;> rfl
set_option maxHeartbeats 1600000 in
theorem rorAt (a b : Int) (w : World) : Calls Try.prog 12 #[.int .i64 a, .int .i64 b] w fun e w' => e = .returned (.int .i64 (orT (tr a) (tr b))) ∧ w' = w := by
  have hc := fun w => rnotAt a w
  have hd := fun w => rnotAt b w
  rcases tr_cases a with h | h | h
  all_goals
    rcases tr_cases b with g | g | g
    all_goals
      rw [h] at hc ⊢
      rw [g] at hd ⊢
      clear h g
      go_enter Try.func12, Try.ntmps12
      go_wp2_with (first
        | (go_at_call 8; (with_reducible refine (hc _).mono ?_); rintro e w' ⟨rfl, rfl⟩)
        | (go_at_call 8; (with_reducible refine (hd _).mono ?_); rintro e w' ⟨rfl, rfl⟩)
        | (go_at_call 8; (with_reducible refine (rnotAt _ _).mono ?_); rintro e w' ⟨rfl, rfl⟩)
        | (go_at_call 10; (with_reducible refine (randAt _ _ _).mono ?_); rintro e w' ⟨rfl, rfl⟩))
      go_ret
      exact ⟨rfl, rfl⟩
set_option maxHeartbeats 1600000 in
theorem rxorAt (a b : Int) (w : World) : Calls Try.prog 14 #[.int .i64 a, .int .i64 b] w fun e w' => e = .returned (.int .i64 (xorT (tr a) (tr b))) ∧ w' = w := by
  have hc := fun w => normAt a w
  have hd := fun w => normAt b w
  by_cases ha : tr a = 2
  · have hv : xorT (tr a) (tr b) = 2 := by rw [ha]; unfold xorT; rw [if_neg (by omega)]
    rw [hv]
    rw [ha] at hc
    clear ha hv hd
    go_enter Try.func14, Try.ntmps14
    go_wp2_with (go_at_call 25; (with_reducible refine (hc _).mono ?_); rintro e w' ⟨rfl, rfl⟩)
    go_ret
    exact ⟨rfl, rfl⟩
  · obtain ⟨ka, h3⟩ := tr_known ha
    clear ha
    by_cases hb : tr b = 2
    · have hv : xorT (tr a) (tr b) = 2 := by rw [hb]; unfold xorT; rw [if_neg (by omega)]
      rw [hv]
      rw [hb] at hd
      clear hb hv ka
      rcases h3 with h | h
      all_goals
        rw [h] at hc
        clear h
        go_enter Try.func14, Try.ntmps14
        go_wp2_with (first
          | (go_at_call 25; (with_reducible refine (hc _).mono ?_); rintro e w' ⟨rfl, rfl⟩)
          | (go_at_call 25; (with_reducible refine (hd _).mono ?_); rintro e w' ⟨rfl, rfl⟩))
        go_ret
        exact ⟨rfl, rfl⟩
    · obtain ⟨kb, _⟩ := tr_known hb
      clear hc hd hb h3
      rcases ka with rfl | rfl
      all_goals
        rcases kb with rfl | rfl
        all_goals
          go_enter Try.func14, Try.ntmps14
          go_wp2_with (go_at_call 25; go_in)
          go_ret
          exact ⟨rfl, rfl⟩
end Go.Proofs.Ytdnijfkiebpnpaa
