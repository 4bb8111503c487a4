/- The law LogicLaws, walked. -/
import Derived.Test.YtdnijfkiebpnpaaL6
import Derived.Deep.LoopGhost
import Derived.Deep.DeepCutAuto
import Derived.BigGuardPart
import Derived.Lib.Hide
namespace Go.Proofs.Ytdnijfkiebpnpaa
open Go.RowKit


theorem neq_of {a b : Int} (h : a = b) : (a != b) = false := by simp [h]
theorem law1 {a : Int} (h : T3 a) : notT (notT a) = a ∧ andT a a = a ∧ orT a a = a ∧ andT a 1 = a ∧ orT a 0 = a ∧ andT a 0 = 0 ∧ orT a 1 = 1 := by
  rcases h with rfl | rfl | rfl <;> decide
theorem law2 {a b : Int} (h : T3 a) (g : T3 b) : notT (andT a b) = orT (notT a) (notT b) ∧ andT a b = andT b a ∧ orT a b = orT b a ∧ xorT a b = xorT b a := by
  rcases h with rfl | rfl | rfl <;> rcases g with rfl | rfl | rfl <;> decide
theorem law3 {a b : Int} (h : T3 a) (g : T3 b) (h2 : a ≠ 2) (g2 : b ≠ 2) : xorT a b = andT (orT a b) (notT (andT a b)) := by
  rcases h with rfl | rfl | rfl <;> rcases g with rfl | rfl | rfl <;> first | decide | contradiction
theorem law4 {a b c : Int} (h : T3 a) (g : T3 b) (k : T3 c) : andT a (andT b c) = andT (andT a b) c ∧ orT a (orT b c) = orT (orT a b) c ∧ andT a (orT b c) = orT (andT a b) (andT a c) ∧ orT a (andT b c) = andT (orT a b) (orT a c) := by
  rcases h with rfl | rfl | rfl <;> rcases g with rfl | rfl | rfl <;> rcases k with rfl | rfl | rfl <;> decide
theorem t3_nat {i : Nat} (h : (i : Int) < 3) : T3 i := by
  have h' : i < 3 := by omega
  unfold T3
  omega

set_option maxRecDepth 20000 in
set_option maxHeartbeats 6400000 in
theorem lawsWalk (w : World) : Calls Try.prog 4 #[] w fun e w' => e = .returned (.bool true) ∧ Below w.heap.size w w' := by
  have J0 := And.intro (Below.refl w.heap.size w) (Nat.le_refl w.heap.size)
  go_enter Try.func4, Try.ntmps4
  go_wp2_with fail
  go_loopg [1] 3 (fun gg s1 wr => ∃ i : Nat, i + gg = 3 ∧ s1 = .int .i64 i ∧ Below w.heap.size w wr ∧ w.heap.size ≤ wr.heap.size)
  case atStart => exact ⟨0, by omega, rfl, J0⟩
  case round =>
    clear J0
    obtain ⟨i, hig, rfl, I⟩ := hrel
    by_cases hi : (i : Int) < 3
    · have TT : T3 (i : Int) ∧ T3 (i : Int) ∧ T3 (i : Int) := ⟨t3_nat hi, t3_nat hi, t3_nat hi⟩
      obtain ⟨e1, e2, e3, e4, e5, e6, e7⟩ := law1 TT.1
      replace e1 := neq_of e1
      replace e2 := neq_of e2
      replace e3 := neq_of e3
      replace e4 := neq_of e4
      replace e5 := neq_of e5
      replace e6 := neq_of e6
      replace e7 := neq_of e7
      go_wp2_with (first
          | (go_at_call 7; (with_reducible refine (notC _ (by first | exact TT.1 | exact TT.2.1 | exact TT.2.2 | exact t3_not _ | exact t3_and _ _ | exact t3_or _ _ | exact t3_0 | exact t3_1) _).mono ?_); rintro e w' ⟨rfl, hb⟩; replace I := below_then I.1 I.2 hb; clear hb)
          | (go_at_call 9; (with_reducible refine (andC _ _ (by first | exact TT.1 | exact TT.2.1 | exact TT.2.2 | exact t3_not _ | exact t3_and _ _ | exact t3_or _ _ | exact t3_0 | exact t3_1) (by first | exact TT.1 | exact TT.2.1 | exact TT.2.2 | exact t3_not _ | exact t3_and _ _ | exact t3_or _ _ | exact t3_0 | exact t3_1) _).mono ?_); rintro e w' ⟨rfl, hb⟩; replace I := below_then I.1 I.2 hb; clear hb)
          | (go_at_call 11; (with_reducible refine (orC _ _ (by first | exact TT.1 | exact TT.2.1 | exact TT.2.2 | exact t3_not _ | exact t3_and _ _ | exact t3_or _ _ | exact t3_0 | exact t3_1) (by first | exact TT.1 | exact TT.2.1 | exact TT.2.2 | exact t3_not _ | exact t3_and _ _ | exact t3_or _ _ | exact t3_0 | exact t3_1) _).mono ?_); rintro e w' ⟨rfl, hb⟩; replace I := below_then I.1 I.2 hb; clear hb)
          | (go_at_call 13; (with_reducible refine (xorC _ _ (by first | exact TT.1 | exact TT.2.1 | exact TT.2.2 | exact t3_not _ | exact t3_and _ _ | exact t3_or _ _ | exact t3_0 | exact t3_1) (by first | exact TT.1 | exact TT.2.1 | exact TT.2.2 | exact t3_not _ | exact t3_and _ _ | exact t3_or _ _ | exact t3_0 | exact t3_1) _).mono ?_); rintro e w' ⟨rfl, hb⟩; replace I := below_then I.1 I.2 hb; clear hb))
      clear e1 e2 e3 e4 e5 e6 e7 TT
      go_loopg [2] 3 (fun gg s2 wr => ∃ j : Nat, j + gg = 3 ∧ s2 = .int .i64 j ∧ Below w.heap.size w wr ∧ w.heap.size ≤ wr.heap.size)
      case atStart => exact ⟨0, by omega, rfl, I⟩
      case round =>
        clear I
        obtain ⟨j, hjg, rfl, I⟩ := hrel
        by_cases hj : (j : Int) < 3
        · have TT : T3 (i : Int) ∧ T3 (j : Int) ∧ T3 (j : Int) := ⟨t3_nat hi, t3_nat hj, t3_nat hj⟩
          obtain ⟨e1, e2, e3, e4⟩ := law2 TT.1 TT.2.1
          replace e1 := neq_of e1
          replace e2 := neq_of e2
          replace e3 := neq_of e3
          replace e4 := neq_of e4
          by_cases i2 : (i : Int) = 2
          · have q1 : ((i : Int) != 2) = false := neq_of i2
            have HI2 := Lib.hid i2
            clear i2
            go_wp2_with (first
              | (go_at_call 7; (with_reducible refine (notC _ (by first | exact TT.1 | exact TT.2.1 | exact TT.2.2 | exact t3_not _ | exact t3_and _ _ | exact t3_or _ _ | exact t3_0 | exact t3_1) _).mono ?_); rintro e w' ⟨rfl, hb⟩; replace I := below_then I.1 I.2 hb; clear hb)
              | (go_at_call 9; (with_reducible refine (andC _ _ (by first | exact TT.1 | exact TT.2.1 | exact TT.2.2 | exact t3_not _ | exact t3_and _ _ | exact t3_or _ _ | exact t3_0 | exact t3_1) (by first | exact TT.1 | exact TT.2.1 | exact TT.2.2 | exact t3_not _ | exact t3_and _ _ | exact t3_or _ _ | exact t3_0 | exact t3_1) _).mono ?_); rintro e w' ⟨rfl, hb⟩; replace I := below_then I.1 I.2 hb; clear hb)
              | (go_at_call 11; (with_reducible refine (orC _ _ (by first | exact TT.1 | exact TT.2.1 | exact TT.2.2 | exact t3_not _ | exact t3_and _ _ | exact t3_or _ _ | exact t3_0 | exact t3_1) (by first | exact TT.1 | exact TT.2.1 | exact TT.2.2 | exact t3_not _ | exact t3_and _ _ | exact t3_or _ _ | exact t3_0 | exact t3_1) _).mono ?_); rintro e w' ⟨rfl, hb⟩; replace I := below_then I.1 I.2 hb; clear hb)
              | (go_at_call 13; (with_reducible refine (xorC _ _ (by first | exact TT.1 | exact TT.2.1 | exact TT.2.2 | exact t3_not _ | exact t3_and _ _ | exact t3_or _ _ | exact t3_0 | exact t3_1) (by first | exact TT.1 | exact TT.2.1 | exact TT.2.2 | exact t3_not _ | exact t3_and _ _ | exact t3_or _ _ | exact t3_0 | exact t3_1) _).mono ?_); rintro e w' ⟨rfl, hb⟩; replace I := below_then I.1 I.2 hb; clear hb))
            clear e1 e2 e3 e4 TT
            go_loopg [3] 3 (fun gg s3 wr => ∃ k : Nat, k + gg = 3 ∧ s3 = .int .i64 k ∧ Below w.heap.size w wr ∧ w.heap.size ≤ wr.heap.size)
            case atStart => exact ⟨0, by omega, rfl, I⟩
            case round =>
              clear I
              obtain ⟨k, hkg, rfl, I⟩ := hrel
              by_cases hk : (k : Int) < 3
              · have TT : T3 (i : Int) ∧ T3 (j : Int) ∧ T3 (k : Int) := ⟨t3_nat hi, t3_nat hj, t3_nat hk⟩
                obtain ⟨e1, e2, e3, e4⟩ := law4 TT.1 TT.2.1 TT.2.2
                replace e1 := neq_of e1
                replace e2 := neq_of e2
                replace e3 := neq_of e3
                replace e4 := neq_of e4
                go_wp2_with (first
                    | (go_at_call 7; (with_reducible refine (notC _ (by first | exact TT.1 | exact TT.2.1 | exact TT.2.2 | exact t3_not _ | exact t3_and _ _ | exact t3_or _ _ | exact t3_0 | exact t3_1) _).mono ?_); rintro e w' ⟨rfl, hb⟩; replace I := below_then I.1 I.2 hb; clear hb)
                    | (go_at_call 9; (with_reducible refine (andC _ _ (by first | exact TT.1 | exact TT.2.1 | exact TT.2.2 | exact t3_not _ | exact t3_and _ _ | exact t3_or _ _ | exact t3_0 | exact t3_1) (by first | exact TT.1 | exact TT.2.1 | exact TT.2.2 | exact t3_not _ | exact t3_and _ _ | exact t3_or _ _ | exact t3_0 | exact t3_1) _).mono ?_); rintro e w' ⟨rfl, hb⟩; replace I := below_then I.1 I.2 hb; clear hb)
                    | (go_at_call 11; (with_reducible refine (orC _ _ (by first | exact TT.1 | exact TT.2.1 | exact TT.2.2 | exact t3_not _ | exact t3_and _ _ | exact t3_or _ _ | exact t3_0 | exact t3_1) (by first | exact TT.1 | exact TT.2.1 | exact TT.2.2 | exact t3_not _ | exact t3_and _ _ | exact t3_or _ _ | exact t3_0 | exact t3_1) _).mono ?_); rintro e w' ⟨rfl, hb⟩; replace I := below_then I.1 I.2 hb; clear hb)
                    | (go_at_call 13; (with_reducible refine (xorC _ _ (by first | exact TT.1 | exact TT.2.1 | exact TT.2.2 | exact t3_not _ | exact t3_and _ _ | exact t3_or _ _ | exact t3_0 | exact t3_1) (by first | exact TT.1 | exact TT.2.1 | exact TT.2.2 | exact t3_not _ | exact t3_and _ _ | exact t3_or _ _ | exact t3_0 | exact t3_1) _).mono ?_); rintro e w' ⟨rfl, hb⟩; replace I := below_then I.1 I.2 hb; clear hb))
                go_roundg (gk - 1)
                case measure => omega
                case rel => exact ⟨k + 1, by omega, by go_num, I⟩
              · go_wp2_with fail
                go_roundg (3 - j - 1)
                case measure => omega
                case rel => exact ⟨j + 1, by omega, by go_num, I⟩
          · have q1 : ((i : Int) != 2) = true := by simpa using i2
            by_cases j2 : (j : Int) = 2
            · have q2 : ((j : Int) != 2) = false := neq_of j2
              have HJ2 := Lib.hid j2
              clear i2 j2
              go_wp2_with (first
                | (go_at_call 7; (with_reducible refine (notC _ (by first | exact TT.1 | exact TT.2.1 | exact TT.2.2 | exact t3_not _ | exact t3_and _ _ | exact t3_or _ _ | exact t3_0 | exact t3_1) _).mono ?_); rintro e w' ⟨rfl, hb⟩; replace I := below_then I.1 I.2 hb; clear hb)
                | (go_at_call 9; (with_reducible refine (andC _ _ (by first | exact TT.1 | exact TT.2.1 | exact TT.2.2 | exact t3_not _ | exact t3_and _ _ | exact t3_or _ _ | exact t3_0 | exact t3_1) (by first | exact TT.1 | exact TT.2.1 | exact TT.2.2 | exact t3_not _ | exact t3_and _ _ | exact t3_or _ _ | exact t3_0 | exact t3_1) _).mono ?_); rintro e w' ⟨rfl, hb⟩; replace I := below_then I.1 I.2 hb; clear hb)
                | (go_at_call 11; (with_reducible refine (orC _ _ (by first | exact TT.1 | exact TT.2.1 | exact TT.2.2 | exact t3_not _ | exact t3_and _ _ | exact t3_or _ _ | exact t3_0 | exact t3_1) (by first | exact TT.1 | exact TT.2.1 | exact TT.2.2 | exact t3_not _ | exact t3_and _ _ | exact t3_or _ _ | exact t3_0 | exact t3_1) _).mono ?_); rintro e w' ⟨rfl, hb⟩; replace I := below_then I.1 I.2 hb; clear hb)
                | (go_at_call 13; (with_reducible refine (xorC _ _ (by first | exact TT.1 | exact TT.2.1 | exact TT.2.2 | exact t3_not _ | exact t3_and _ _ | exact t3_or _ _ | exact t3_0 | exact t3_1) (by first | exact TT.1 | exact TT.2.1 | exact TT.2.2 | exact t3_not _ | exact t3_and _ _ | exact t3_or _ _ | exact t3_0 | exact t3_1) _).mono ?_); rintro e w' ⟨rfl, hb⟩; replace I := below_then I.1 I.2 hb; clear hb))
              clear e1 e2 e3 e4 TT
              go_loopg [3] 3 (fun gg s3 wr => ∃ k : Nat, k + gg = 3 ∧ s3 = .int .i64 k ∧ Below w.heap.size w wr ∧ w.heap.size ≤ wr.heap.size)
              case atStart => exact ⟨0, by omega, rfl, I⟩
              case round =>
                clear I
                obtain ⟨k, hkg, rfl, I⟩ := hrel
                by_cases hk : (k : Int) < 3
                · have TT : T3 (i : Int) ∧ T3 (j : Int) ∧ T3 (k : Int) := ⟨t3_nat hi, t3_nat hj, t3_nat hk⟩
                  obtain ⟨e1, e2, e3, e4⟩ := law4 TT.1 TT.2.1 TT.2.2
                  replace e1 := neq_of e1
                  replace e2 := neq_of e2
                  replace e3 := neq_of e3
                  replace e4 := neq_of e4
                  go_wp2_with (first
                      | (go_at_call 7; (with_reducible refine (notC _ (by first | exact TT.1 | exact TT.2.1 | exact TT.2.2 | exact t3_not _ | exact t3_and _ _ | exact t3_or _ _ | exact t3_0 | exact t3_1) _).mono ?_); rintro e w' ⟨rfl, hb⟩; replace I := below_then I.1 I.2 hb; clear hb)
                      | (go_at_call 9; (with_reducible refine (andC _ _ (by first | exact TT.1 | exact TT.2.1 | exact TT.2.2 | exact t3_not _ | exact t3_and _ _ | exact t3_or _ _ | exact t3_0 | exact t3_1) (by first | exact TT.1 | exact TT.2.1 | exact TT.2.2 | exact t3_not _ | exact t3_and _ _ | exact t3_or _ _ | exact t3_0 | exact t3_1) _).mono ?_); rintro e w' ⟨rfl, hb⟩; replace I := below_then I.1 I.2 hb; clear hb)
                      | (go_at_call 11; (with_reducible refine (orC _ _ (by first | exact TT.1 | exact TT.2.1 | exact TT.2.2 | exact t3_not _ | exact t3_and _ _ | exact t3_or _ _ | exact t3_0 | exact t3_1) (by first | exact TT.1 | exact TT.2.1 | exact TT.2.2 | exact t3_not _ | exact t3_and _ _ | exact t3_or _ _ | exact t3_0 | exact t3_1) _).mono ?_); rintro e w' ⟨rfl, hb⟩; replace I := below_then I.1 I.2 hb; clear hb)
                      | (go_at_call 13; (with_reducible refine (xorC _ _ (by first | exact TT.1 | exact TT.2.1 | exact TT.2.2 | exact t3_not _ | exact t3_and _ _ | exact t3_or _ _ | exact t3_0 | exact t3_1) (by first | exact TT.1 | exact TT.2.1 | exact TT.2.2 | exact t3_not _ | exact t3_and _ _ | exact t3_or _ _ | exact t3_0 | exact t3_1) _).mono ?_); rintro e w' ⟨rfl, hb⟩; replace I := below_then I.1 I.2 hb; clear hb))
                  go_roundg (gk - 1)
                  case measure => omega
                  case rel => exact ⟨k + 1, by omega, by go_num, I⟩
                · go_wp2_with fail
                  go_roundg (3 - j - 1)
                  case measure => omega
                  case rel => exact ⟨j + 1, by omega, by go_num, I⟩
            · have q2 : ((j : Int) != 2) = true := by simpa using j2
              have e5 := neq_of (law3 TT.1 TT.2.1 i2 j2)
              clear i2 j2
              go_wp2_with (first
                | (go_at_call 7; (with_reducible refine (notC _ (by first | exact TT.1 | exact TT.2.1 | exact TT.2.2 | exact t3_not _ | exact t3_and _ _ | exact t3_or _ _ | exact t3_0 | exact t3_1) _).mono ?_); rintro e w' ⟨rfl, hb⟩; replace I := below_then I.1 I.2 hb; clear hb)
                | (go_at_call 9; (with_reducible refine (andC _ _ (by first | exact TT.1 | exact TT.2.1 | exact TT.2.2 | exact t3_not _ | exact t3_and _ _ | exact t3_or _ _ | exact t3_0 | exact t3_1) (by first | exact TT.1 | exact TT.2.1 | exact TT.2.2 | exact t3_not _ | exact t3_and _ _ | exact t3_or _ _ | exact t3_0 | exact t3_1) _).mono ?_); rintro e w' ⟨rfl, hb⟩; replace I := below_then I.1 I.2 hb; clear hb)
                | (go_at_call 11; (with_reducible refine (orC _ _ (by first | exact TT.1 | exact TT.2.1 | exact TT.2.2 | exact t3_not _ | exact t3_and _ _ | exact t3_or _ _ | exact t3_0 | exact t3_1) (by first | exact TT.1 | exact TT.2.1 | exact TT.2.2 | exact t3_not _ | exact t3_and _ _ | exact t3_or _ _ | exact t3_0 | exact t3_1) _).mono ?_); rintro e w' ⟨rfl, hb⟩; replace I := below_then I.1 I.2 hb; clear hb)
                | (go_at_call 13; (with_reducible refine (xorC _ _ (by first | exact TT.1 | exact TT.2.1 | exact TT.2.2 | exact t3_not _ | exact t3_and _ _ | exact t3_or _ _ | exact t3_0 | exact t3_1) (by first | exact TT.1 | exact TT.2.1 | exact TT.2.2 | exact t3_not _ | exact t3_and _ _ | exact t3_or _ _ | exact t3_0 | exact t3_1) _).mono ?_); rintro e w' ⟨rfl, hb⟩; replace I := below_then I.1 I.2 hb; clear hb))
              clear e1 e2 e3 e4 e5 TT
              go_loopg [3] 3 (fun gg s3 wr => ∃ k : Nat, k + gg = 3 ∧ s3 = .int .i64 k ∧ Below w.heap.size w wr ∧ w.heap.size ≤ wr.heap.size)
              case atStart => exact ⟨0, by omega, rfl, I⟩
              case round =>
                clear I
                obtain ⟨k, hkg, rfl, I⟩ := hrel
                by_cases hk : (k : Int) < 3
                · have TT : T3 (i : Int) ∧ T3 (j : Int) ∧ T3 (k : Int) := ⟨t3_nat hi, t3_nat hj, t3_nat hk⟩
                  obtain ⟨e1, e2, e3, e4⟩ := law4 TT.1 TT.2.1 TT.2.2
                  replace e1 := neq_of e1
                  replace e2 := neq_of e2
                  replace e3 := neq_of e3
                  replace e4 := neq_of e4
                  go_wp2_with (first
                      | (go_at_call 7; (with_reducible refine (notC _ (by first | exact TT.1 | exact TT.2.1 | exact TT.2.2 | exact t3_not _ | exact t3_and _ _ | exact t3_or _ _ | exact t3_0 | exact t3_1) _).mono ?_); rintro e w' ⟨rfl, hb⟩; replace I := below_then I.1 I.2 hb; clear hb)
                      | (go_at_call 9; (with_reducible refine (andC _ _ (by first | exact TT.1 | exact TT.2.1 | exact TT.2.2 | exact t3_not _ | exact t3_and _ _ | exact t3_or _ _ | exact t3_0 | exact t3_1) (by first | exact TT.1 | exact TT.2.1 | exact TT.2.2 | exact t3_not _ | exact t3_and _ _ | exact t3_or _ _ | exact t3_0 | exact t3_1) _).mono ?_); rintro e w' ⟨rfl, hb⟩; replace I := below_then I.1 I.2 hb; clear hb)
                      | (go_at_call 11; (with_reducible refine (orC _ _ (by first | exact TT.1 | exact TT.2.1 | exact TT.2.2 | exact t3_not _ | exact t3_and _ _ | exact t3_or _ _ | exact t3_0 | exact t3_1) (by first | exact TT.1 | exact TT.2.1 | exact TT.2.2 | exact t3_not _ | exact t3_and _ _ | exact t3_or _ _ | exact t3_0 | exact t3_1) _).mono ?_); rintro e w' ⟨rfl, hb⟩; replace I := below_then I.1 I.2 hb; clear hb)
                      | (go_at_call 13; (with_reducible refine (xorC _ _ (by first | exact TT.1 | exact TT.2.1 | exact TT.2.2 | exact t3_not _ | exact t3_and _ _ | exact t3_or _ _ | exact t3_0 | exact t3_1) (by first | exact TT.1 | exact TT.2.1 | exact TT.2.2 | exact t3_not _ | exact t3_and _ _ | exact t3_or _ _ | exact t3_0 | exact t3_1) _).mono ?_); rintro e w' ⟨rfl, hb⟩; replace I := below_then I.1 I.2 hb; clear hb))
                  go_roundg (gk - 1)
                  case measure => omega
                  case rel => exact ⟨k + 1, by omega, by go_num, I⟩
                · go_wp2_with fail
                  go_roundg (3 - j - 1)
                  case measure => omega
                  case rel => exact ⟨j + 1, by omega, by go_num, I⟩
        · go_wp2_with fail
          go_roundg (3 - i - 1)
          case measure => omega
          case rel => exact ⟨i + 1, by omega, by go_num, I⟩
    · go_wp2_with (go_at_call 15; (with_reducible refine (wakesAt _).mono ?_); rintro e w' ⟨rfl, hb⟩; replace I := below_then I.1 I.2 hb; clear hb)
      go_ret
      exact ⟨rfl, I.1⟩
end Go.Proofs.Ytdnijfkiebpnpaa
