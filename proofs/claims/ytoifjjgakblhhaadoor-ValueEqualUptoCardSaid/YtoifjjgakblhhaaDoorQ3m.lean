/- Two numbers held against each other. -/
import Derived.Test.YtoifjjgakblhhaaDoorQ2m
namespace Go.Proofs.YtoifjjgakblhhaaDoor
open Go.RowKit

theorem cmpZ_scale (a b : Int) : cmpZ (a * 10 ^ 54) (b * 10 ^ 54) = cmpZ a b := by
  obtain ⟨P, hP⟩ : ∃ P : Int, P = 10 ^ 54 := ⟨_, rfl⟩
  have hp : 0 < P := by rw [hP]; decide
  rw [← hP]
  clear hP
  unfold cmpZ
  by_cases h : a < b
  · rw [if_pos h, if_pos (Int.mul_lt_mul_of_pos_right h hp)]
  · rw [if_neg h, if_neg (fun h2 => h (Int.lt_of_mul_lt_mul_right h2 (Int.le_of_lt hp)))]
    by_cases h3 : b < a
    · rw [if_pos h3, if_pos (Int.mul_lt_mul_of_pos_right h3 hp)]
    · rw [if_neg h3, if_neg (fun h2 => h3 (Int.lt_of_mul_lt_mul_right h2 (Int.le_of_lt hp)))]

theorem cmpIntAt (a b : Int) (w : World) : Calls Tryd.prog 26 #[.int .i64 a, .int .i64 b] w fun e w' => e = .returned (.int .i64 (cmpZ a b)) ∧ Below w.heap.size w w' := by
  by_cases h : a < b
  · have e : cmpZ a b = -1 := by unfold cmpZ; rw [if_pos h]
    rw [e]
    clear e
    go_enter Tryd.func26, Tryd.ntmps26
    go_wp2
    go_ret
    exact ⟨rfl, Below.refl _ _⟩
  · by_cases h2 : b < a
    · have e : cmpZ a b = 1 := by unfold cmpZ; rw [if_neg h, if_pos h2]
      rw [e]
      clear e
      go_enter Tryd.func26, Tryd.ntmps26
      go_wp2
      go_ret
      exact ⟨rfl, Below.refl _ _⟩
    · have e : cmpZ a b = 0 := by unfold cmpZ; rw [if_neg h, if_neg h2]
      rw [e]
      obtain rfl : a = b := by omega
      clear e h2 h
      go_enter Tryd.func26, Tryd.ntmps26
      go_wp2
      go_ret
      exact ⟨rfl, Below.refl _ _⟩
end Go.Proofs.YtoifjjgakblhhaaDoor
