/- The law LogicTables, walked. -/
import Derived.Test.YtdnijfkiebpnpaaT0
namespace Go.Proofs.Ytdnijfkiebpnpaa
open Go.RowKit

theorem neq_self (a : Int) : (a != a) = false := by simp

set_option maxRecDepth 20000 in
set_option maxHeartbeats 6400000 in
theorem tablesSome (b off n cap : Nat) (Z : Nat → Int) (w : World) (hS : Elems w b off n Z) (hn : n ≤ maxLen) :
    Calls Try.prog 3 #[.agg #[.slice (some ⟨b, off, none⟩) n cap]] w fun e w' => e = .returned (.bool true) ∧ Below w.heap.size w w' := by
  unfold maxLen at hn
  have I0 := Inv.start (cap := cap) hS
  go_enter Try.func3, Try.ntmps3
  go_wp2_with fail
  go_loopg [3] n (fun gg s3 wr => ∃ i : Nat, i + gg = n ∧ s3 = .int .i64 i ∧ Inv w b off n cap Z wr)
  case atStart => exact ⟨0, by omega, rfl, I0⟩
  case round =>
    clear I0
    obtain ⟨i, hig, rfl, I⟩ := hrel
    have hp := I.cell
    by_cases hlt : (i : Int) < n
    · by_cases h12 : (i : Int) < 12
      · have c1 := I.s i (by omega)
        go_wp2_with (first
            | (go_at_call 7; (with_reducible refine (notAt _ _).mono ?_); rintro e w' ⟨rfl, hb⟩; replace I := I.step hb; clear hb; replace hp := I.cell)
            | (go_at_call 8; (with_reducible refine (rnotAt _ _).mono ?_); rintro e w' ⟨rfl, rfl⟩)
            | (go_at_call 9; (with_reducible refine (andAt _ _ _).mono ?_); rintro e w' ⟨rfl, hb⟩; replace I := I.step hb; clear hb; replace hp := I.cell)
            | (go_at_call 10; (with_reducible refine (randAt _ _ _).mono ?_); rintro e w' ⟨rfl, rfl⟩)
            | (go_at_call 11; (with_reducible refine (orAt _ _ _).mono ?_); rintro e w' ⟨rfl, hb⟩; replace I := I.step hb; clear hb; replace hp := I.cell)
            | (go_at_call 12; (with_reducible refine (rorAt _ _ _).mono ?_); rintro e w' ⟨rfl, rfl⟩)
            | (go_at_call 13; (with_reducible refine (xorAt _ _ _).mono ?_); rintro e w' ⟨rfl, hb⟩; replace I := I.step hb; clear hb; replace hp := I.cell)
            | (go_at_call 14; (with_reducible refine (rxorAt _ _ _).mono ?_); rintro e w' ⟨rfl, rfl⟩))
        clear c1 hp
        go_loopg [5] n (fun gg s5 wr => ∃ k : Nat, k + gg = n ∧ s5 = .int .i64 k ∧ Inv w b off n cap Z wr)
        case atStart => exact ⟨0, by omega, rfl, I⟩
        case round =>
          clear I
          obtain ⟨k, hkg, rfl, I⟩ := hrel
          have hp := I.cell
          by_cases hkt : (k : Int) < n
          · by_cases k12 : (k : Int) < 12
            · have c2 := I.s k (by omega)
              go_wp2_with (first
                  | (go_at_call 7; (with_reducible refine (notAt _ _).mono ?_); rintro e w' ⟨rfl, hb⟩; replace I := I.step hb; clear hb; replace hp := I.cell)
                  | (go_at_call 8; (with_reducible refine (rnotAt _ _).mono ?_); rintro e w' ⟨rfl, rfl⟩)
                  | (go_at_call 9; (with_reducible refine (andAt _ _ _).mono ?_); rintro e w' ⟨rfl, hb⟩; replace I := I.step hb; clear hb; replace hp := I.cell)
                  | (go_at_call 10; (with_reducible refine (randAt _ _ _).mono ?_); rintro e w' ⟨rfl, rfl⟩)
                  | (go_at_call 11; (with_reducible refine (orAt _ _ _).mono ?_); rintro e w' ⟨rfl, hb⟩; replace I := I.step hb; clear hb; replace hp := I.cell)
                  | (go_at_call 12; (with_reducible refine (rorAt _ _ _).mono ?_); rintro e w' ⟨rfl, rfl⟩)
                  | (go_at_call 13; (with_reducible refine (xorAt _ _ _).mono ?_); rintro e w' ⟨rfl, hb⟩; replace I := I.step hb; clear hb; replace hp := I.cell)
                  | (go_at_call 14; (with_reducible refine (rxorAt _ _ _).mono ?_); rintro e w' ⟨rfl, rfl⟩))
              go_roundg (gk - 1)
              case measure => omega
              case rel => exact ⟨k + 1, by omega, by go_num, I⟩
            · go_wp2_with fail
              go_roundg (n - i - 1)
              case measure => omega
              case rel => exact ⟨i + 1, by omega, by go_num, I⟩
          · go_wp2_with fail
            go_roundg (n - i - 1)
            case measure => omega
            case rel => exact ⟨i + 1, by omega, by go_num, I⟩
      · go_wp2_with (go_at_call 15; (with_reducible refine (wakesAt _).mono ?_); rintro e w' ⟨rfl, hb⟩; replace I := I.step hb)
        go_ret
        exact ⟨rfl, I.bel⟩
    · go_wp2_with (go_at_call 15; (with_reducible refine (wakesAt _).mono ?_); rintro e w' ⟨rfl, hb⟩; replace I := I.step hb)
      go_ret
      exact ⟨rfl, I.bel⟩
theorem tablesNone (p : Option Addr) (cap : Nat) (w : World) :
    Calls Try.prog 3 #[.agg #[.slice p 0 cap]] w fun e w' => e = .returned (.bool true) ∧ Below w.heap.size w w' := by
  have hb0 := below1 w (.cells #[.slice p 0 cap] 24)
  have hc := cell_new1 w (.slice p 0 cap) 24
  go_enter Try.func3, Try.ntmps3
  go_wp2_with fail
  go_loopg [3] 0 (fun gg s3 wr => s3 = .int .i64 0 ∧ gg = 0 ∧ wr = w.alloc (.cells #[.slice p 0 cap] 24))
  case atStart => exact ⟨rfl, rfl, rfl⟩
  case round =>
    obtain ⟨rfl, _, rfl⟩ := hrel
    go_wp2_with (go_at_call 15; (with_reducible refine (wakesAt _).mono ?_); rintro e w1 ⟨rfl, hb1⟩)
    go_ret
    exact ⟨rfl, hb0.trans (hb1.mono (by simp))⟩
end Go.Proofs.Ytdnijfkiebpnpaa
