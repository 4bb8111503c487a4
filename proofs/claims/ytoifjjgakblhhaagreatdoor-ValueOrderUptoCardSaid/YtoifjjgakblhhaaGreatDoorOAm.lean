/- Where a value stands by its kind; how two truths stand. -/
import Derived.Test.YtoifjjgakblhhaaGreatDoorGz
import Derived.Test.YtoifjjgakblhhaaGreatDoorGn
import Derived.Test.YtoifjjgakblhhaaGreatDoorGr
namespace Go.Proofs.YtoifjjgakblhhaaGreatDoor
open Go.RowKit

set_option maxRecDepth 4000 in
set_option maxHeartbeats 6400000 in
theorem rankAt (lang k : Int) (b : Bool) (n : Int) (t x : ByteArray) (p : Option Addr) (len cap : Nat) (w : World) :
    Calls Tryz.prog 54 #[.int .i64 lang, .agg #[.int .i64 k, .bool b, .int .i64 n, .string t, .string x, .slice p len cap]] w fun e w' => e = .returned (.int .i64 (rankI lang k)) ∧ Below w.heap.size w w' := by
  have S := six_new (k := k) (b := b) (n := n) (t := t) (x := x) (p := p) (len := len) (cap := cap) w rfl
  have b0 := below1 w (.cells #[.int .i64 k, .bool b, .int .i64 n, .string t, .string x, .slice p len cap] 28)
  by_cases h0 : k = 0
  · subst h0
    by_cases hl : lang = 1
    · subst hl
      rw [show rankI 1 0 = 0 from rfl]
      go_enter Tryz.func54, Tryz.ntmps54
      go_wp2_with (first
        | ((with_reducible refine wpList_load6 (.tmp 3) w.heap.size S ?_ ?_ ?_ ?_); rfl; rfl; rfl)
        | (go_at_call 72; (with_reducible refine (kindOfAt 0 b n t x _ 80 rfl _).mono ?_); rintro e w2 ⟨rfl, hb2⟩; have b2 := below_any b0 hb2 b0.size; clear hb2)
        | (simp only [ta80_80, ta80_81, ta80_82, ta80_83, ta80_84, ta80_85, ta80_87, ta80_88, ta80_89, ta80_90, ta80_91, Result.andThen_ok]))
      go_ret
      exact ⟨rfl, b2⟩
    · rw [show rankI lang 0 = 10 by unfold rankI; rw [if_pos rfl, if_neg hl]]
      go_enter Tryz.func54, Tryz.ntmps54
      go_wp2_with (first
        | ((with_reducible refine wpList_load6 (.tmp 3) w.heap.size S ?_ ?_ ?_ ?_); rfl; rfl; rfl)
        | (go_at_call 72; (with_reducible refine (kindOfAt 0 b n t x _ 80 rfl _).mono ?_); rintro e w2 ⟨rfl, hb2⟩; have b2 := below_any b0 hb2 b0.size; clear hb2)
        | (simp only [ta80_80, ta80_81, ta80_82, ta80_83, ta80_84, ta80_85, ta80_87, ta80_88, ta80_89, ta80_90, ta80_91, Result.andThen_ok]))
      go_ret
      exact ⟨rfl, b2⟩
  by_cases h1 : k = 1
  · subst h1
    rw [show rankI lang 1 = 8 from rfl]
    go_enter Tryz.func54, Tryz.ntmps54
    go_wp2_with (first
      | ((with_reducible refine wpList_load6 (.tmp 3) w.heap.size S ?_ ?_ ?_ ?_); rfl; rfl; rfl)
      | (go_at_call 72; (with_reducible refine (kindOfAt 1 b n t x _ 81 rfl _).mono ?_); rintro e w2 ⟨rfl, hb2⟩; have b2 := below_any b0 hb2 b0.size; clear hb2)
      | (simp only [ta81_80, ta81_81, ta81_82, ta81_83, ta81_84, ta81_85, ta81_87, ta81_88, ta81_89, ta81_90, ta81_91, Result.andThen_ok]))
    go_ret
    exact ⟨rfl, b2⟩
  by_cases h2 : k = 2
  · subst h2
    rw [show rankI lang 2 = 9 from rfl]
    go_enter Tryz.func54, Tryz.ntmps54
    go_wp2_with (first
      | ((with_reducible refine wpList_load6 (.tmp 3) w.heap.size S ?_ ?_ ?_ ?_); rfl; rfl; rfl)
      | (go_at_call 72; (with_reducible refine (kindOfAt 2 b n t x _ 82 rfl _).mono ?_); rintro e w2 ⟨rfl, hb2⟩; have b2 := below_any b0 hb2 b0.size; clear hb2)
      | (simp only [ta82_80, ta82_81, ta82_82, ta82_83, ta82_84, ta82_85, ta82_87, ta82_88, ta82_89, ta82_90, ta82_91, Result.andThen_ok]))
    go_ret
    exact ⟨rfl, b2⟩
  by_cases h3 : k = 3
  · subst h3
    rw [show rankI lang 3 = 9 from rfl]
    go_enter Tryz.func54, Tryz.ntmps54
    go_wp2_with (first
      | ((with_reducible refine wpList_load6 (.tmp 3) w.heap.size S ?_ ?_ ?_ ?_); rfl; rfl; rfl)
      | (go_at_call 72; (with_reducible refine (kindOfAt 3 b n t x _ 85 rfl _).mono ?_); rintro e w2 ⟨rfl, hb2⟩; have b2 := below_any b0 hb2 b0.size; clear hb2)
      | (simp only [ta85_80, ta85_81, ta85_82, ta85_83, ta85_84, ta85_85, ta85_87, ta85_88, ta85_89, ta85_90, ta85_91, Result.andThen_ok]))
    go_ret
    exact ⟨rfl, b2⟩
  by_cases h4 : k = 4
  · subst h4
    rw [show rankI lang 4 = 7 from rfl]
    go_enter Tryz.func54, Tryz.ntmps54
    go_wp2_with (first
      | ((with_reducible refine wpList_load6 (.tmp 3) w.heap.size S ?_ ?_ ?_ ?_); rfl; rfl; rfl)
      | (go_at_call 72; (with_reducible refine (kindOfAt 4 b n t x _ 87 rfl _).mono ?_); rintro e w2 ⟨rfl, hb2⟩; have b2 := below_any b0 hb2 b0.size; clear hb2)
      | (simp only [ta87_80, ta87_81, ta87_82, ta87_83, ta87_84, ta87_85, ta87_87, ta87_88, ta87_89, ta87_90, ta87_91, Result.andThen_ok]))
    go_ret
    exact ⟨rfl, b2⟩
  by_cases h5 : k = 5
  · subst h5
    rw [show rankI lang 5 = 1 from rfl]
    go_enter Tryz.func54, Tryz.ntmps54
    go_wp2_with (first
      | ((with_reducible refine wpList_load6 (.tmp 3) w.heap.size S ?_ ?_ ?_ ?_); rfl; rfl; rfl)
      | (go_at_call 72; (with_reducible refine (kindOfAt 5 b n t x _ 91 rfl _).mono ?_); rintro e w2 ⟨rfl, hb2⟩; have b2 := below_any b0 hb2 b0.size; clear hb2)
      | (simp only [ta91_80, ta91_81, ta91_82, ta91_83, ta91_84, ta91_85, ta91_87, ta91_88, ta91_89, ta91_90, ta91_91, Result.andThen_ok]))
    go_ret
    exact ⟨rfl, b2⟩
  by_cases h6 : k = 6
  · subst h6
    rw [show rankI lang 6 = 2 from rfl]
    go_enter Tryz.func54, Tryz.ntmps54
    go_wp2_with (first
      | ((with_reducible refine wpList_load6 (.tmp 3) w.heap.size S ?_ ?_ ?_ ?_); rfl; rfl; rfl)
      | (go_at_call 72; (with_reducible refine (kindOfAt 6 b n t x _ 83 rfl _).mono ?_); rintro e w2 ⟨rfl, hb2⟩; have b2 := below_any b0 hb2 b0.size; clear hb2)
      | (simp only [ta83_80, ta83_81, ta83_82, ta83_83, ta83_84, ta83_85, ta83_87, ta83_88, ta83_89, ta83_90, ta83_91, Result.andThen_ok]))
    go_ret
    exact ⟨rfl, b2⟩
  by_cases h7 : k = 7
  · subst h7
    rw [show rankI lang 7 = 3 from rfl]
    go_enter Tryz.func54, Tryz.ntmps54
    go_wp2_with (first
      | ((with_reducible refine wpList_load6 (.tmp 3) w.heap.size S ?_ ?_ ?_ ?_); rfl; rfl; rfl)
      | (go_at_call 72; (with_reducible refine (kindOfAt 7 b n t x _ 84 rfl _).mono ?_); rintro e w2 ⟨rfl, hb2⟩; have b2 := below_any b0 hb2 b0.size; clear hb2)
      | (simp only [ta84_80, ta84_81, ta84_82, ta84_83, ta84_84, ta84_85, ta84_87, ta84_88, ta84_89, ta84_90, ta84_91, Result.andThen_ok]))
    go_ret
    exact ⟨rfl, b2⟩
  by_cases h8 : k = 8
  · subst h8
    rw [show rankI lang 8 = 5 from rfl]
    go_enter Tryz.func54, Tryz.ntmps54
    go_wp2_with (first
      | ((with_reducible refine wpList_load6 (.tmp 3) w.heap.size S ?_ ?_ ?_ ?_); rfl; rfl; rfl)
      | (go_at_call 72; (with_reducible refine (kindOfAt 8 b n t x _ 88 rfl _).mono ?_); rintro e w2 ⟨rfl, hb2⟩; have b2 := below_any b0 hb2 b0.size; clear hb2)
      | (simp only [ta88_80, ta88_81, ta88_82, ta88_83, ta88_84, ta88_85, ta88_87, ta88_88, ta88_89, ta88_90, ta88_91, Result.andThen_ok]))
    go_ret
    exact ⟨rfl, b2⟩
  by_cases h9 : k = 9
  · subst h9
    rw [show rankI lang 9 = 4 from rfl]
    go_enter Tryz.func54, Tryz.ntmps54
    go_wp2_with (first
      | ((with_reducible refine wpList_load6 (.tmp 3) w.heap.size S ?_ ?_ ?_ ?_); rfl; rfl; rfl)
      | (go_at_call 72; (with_reducible refine (kindOfAt 9 b n t x _ 89 rfl _).mono ?_); rintro e w2 ⟨rfl, hb2⟩; have b2 := below_any b0 hb2 b0.size; clear hb2)
      | (simp only [ta89_80, ta89_81, ta89_82, ta89_83, ta89_84, ta89_85, ta89_87, ta89_88, ta89_89, ta89_90, ta89_91, Result.andThen_ok]))
    go_ret
    exact ⟨rfl, b2⟩
  by_cases h10 : k = 10
  · subst h10
    rw [show rankI lang 10 = 6 from rfl]
    go_enter Tryz.func54, Tryz.ntmps54
    go_wp2_with (first
      | ((with_reducible refine wpList_load6 (.tmp 3) w.heap.size S ?_ ?_ ?_ ?_); rfl; rfl; rfl)
      | (go_at_call 72; (with_reducible refine (kindOfAt 10 b n t x _ 90 rfl _).mono ?_); rintro e w2 ⟨rfl, hb2⟩; have b2 := below_any b0 hb2 b0.size; clear hb2)
      | (simp only [ta90_80, ta90_81, ta90_82, ta90_83, ta90_84, ta90_85, ta90_87, ta90_88, ta90_89, ta90_90, ta90_91, Result.andThen_ok]))
    go_ret
    exact ⟨rfl, b2⟩
  have hk : kindT k = 124 := by unfold kindT; simp [h0, h1, h2, h3, h4, h5, h6, h7, h8, h9, h10]
  rw [show rankI lang k = 11 by unfold rankI; simp [h0, h1, h2, h3, h4, h5, h6, h7, h8, h9, h10]]
  go_enter Tryz.func54, Tryz.ntmps54
  go_wp2_with (first
    | ((with_reducible refine wpList_load6 (.tmp 3) w.heap.size S ?_ ?_ ?_ ?_); rfl; rfl; rfl)
    | (go_at_call 72; (with_reducible refine (kindOfAt k b n t x _ 124 hk.symm _).mono ?_); rintro e w2 ⟨rfl, hb2⟩; have b2 := below_any b0 hb2 b0.size; clear hb2)
    | (simp only [ta124_80, ta124_81, ta124_82, ta124_83, ta124_84, ta124_85, ta124_87, ta124_88, ta124_89, ta124_90, ta124_91, Result.andThen_ok]))
  go_ret
  exact ⟨rfl, b2⟩
theorem orderBoolsAt (a b : Bool) (w : World) : Calls Tryz.prog 95 #[.bool a, .bool b] w fun e w' => e = .returned (.int .i64 (boolI a b)) ∧ w' = w := by
  cases a <;> cases b
  all_goals
    go_enter Tryz.func95, Tryz.ntmps95
    go_wp2_with fail
    go_ret
    exact ⟨rfl, rfl⟩
end Go.Proofs.YtoifjjgakblhhaaGreatDoor
