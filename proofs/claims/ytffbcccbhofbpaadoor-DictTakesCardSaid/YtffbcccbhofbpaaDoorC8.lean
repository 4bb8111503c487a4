/- A column of numbers: cells taken by their numbers. -/
import Derived.Test.YtffbcccbhofbpaaDoorC4
import Derived.Test.YtffbcccbhofbpaaDoorF0
namespace Go.Proofs.YtffbcccbhofbpaaDoor
open Go.RowKit

/-- A list of numbers in memory, a nil one too. -/
def IntL (w : World) (p : Option Addr) (n : Nat) (Z : Nat → Int) : Prop := ∀ k, k < n → ∃ b off, p = some ⟨b, off, none⟩ ∧ w.cell? ⟨b, off + k, none⟩ = some (.int .i64 (Z k))
theorem lt_cellC {w : World} {b o : Nat} {v : Value} (h : w.cell? ⟨b, o, none⟩ = some v) : b < w.heap.size := by
  by_cases hb : b < w.heap.size
  · exact hb
  · have e : w.heap[b]? = none := Array.getElem?_eq_none (by omega)
    simp [World.cell?, e] at h
theorem IntL.below {w w' : World} {p : Option Addr} {n : Nat} {Z : Nat → Int} (h : IntL w p n Z) (q : Below w.heap.size w w') : IntL w' p n Z := fun k hk => by
  obtain ⟨b, off, e, hc⟩ := h k hk
  exact ⟨b, off, e, (q.cell (p := ⟨b, off + k, none⟩) (lt_cellC hc)).trans hc⟩
/-- What an index into it is, and what stands there. -/
theorem IntL.at {w : World} {p : Option Addr} {n cap : Nat} {Z : Nat → Int} (h : IntL w p n Z) (hn : n ≤ maxLen) (k : Nat) (hk : k < n) : ∃ b o, (∀ W, (Instr.indexAt 23 (.slice p n cap) (.int .i64 (k : Int))).run Tryd.prog W = .ok (.pointer (some ⟨b, o, none⟩)) W) ∧ w.cell? ⟨b, o, none⟩ = some (.int .i64 (Z k)) := by
  obtain ⟨b, off, rfl, hc⟩ := h k hk
  unfold maxLen at hn
  refine ⟨b, off + k, fun W => ?_, hc⟩
  go_simp
/-- The cells taken. -/
def tk {α : Type} (xs : List (Option α)) (Z : Nat → Int) (k : Nat) : List (Option α) := (List.range k).map fun i => xs.getD (Z i).toNat none
theorem tk_succ {α : Type} (xs : List (Option α)) (Z : Nat → Int) (k : Nat) : tk xs Z (k + 1) = tk xs Z k ++ [xs.getD (Z k).toNat none] := by simp [tk, List.range_succ]
theorem tk_length {α : Type} (xs : List (Option α)) (Z : Nat → Int) (k : Nat) : (tk xs Z k).length = k := by simp [tk]
theorem tk_get {α : Type} (xs : List (Option α)) (Z : Nat → Int) (n k : Nat) (h : k < n) : (tk xs Z n)[k]? = some (xs.getD (Z k).toNat none) := by simp [tk, h]
set_option maxRecDepth 20000 in
set_option maxHeartbeats 6400000 in
theorem takeNoNum (w : World) (g : Nat) (xs : List (Option Int)) (F : Nat → Prop) (h : ColNum w g xs F) (p : Option Addr) (n cap : Nat) (Z : Nat → Int) (hZ : IntL w p n Z) (hn : n ≤ maxLen) (hx : xs.length ≤ maxLen) (hbad : ∃ i, i < n ∧ (Z i < 0 ∨ (xs.length : Int) ≤ Z i)) :
    Calls Tryd.prog 29 #[.pointer (some ⟨g, 0, none⟩), .slice p n cap] w fun e w' => e = .returned (.tuple #[.pointer none, .int .i64 1]) ∧ w = w' := by
  have HB := Lib.hid hbad
  clear hbad
  have hn2 : n ≤ 9223372036854775807 := by unfold maxLen at hn; omega
  go_enter Tryd.func29, Tryd.ntmps29
  go_wp2_with fail
  go_loop [13] (fun i => ∃ k : Nat, k ≤ n ∧ i = .int .i64 k ∧ Hid (∀ j, j < k → 0 ≤ Z j ∧ Z j < (xs.length : Int))) (fun i => n - (intOf i).toNat)
  case atStart => exact ⟨0, Nat.zero_le _, rfl, Lib.hid (by omega)⟩
  case round =>
    obtain ⟨k, hk, rfl, HA⟩ := hrel
    by_cases hlt : k < n
    · obtain ⟨b, o, hix, hc⟩ := hZ.at (cap := cap) hn k hlt
      generalize hzk : Z k = z at *
      have HZ := Lib.hid hzk
      by_cases hv : 0 ≤ z ∧ z < (xs.length : Int)
      · obtain ⟨q, rfl⟩ : ∃ q : Nat, z = q := ⟨z.toNat, by omega⟩
        have hy := hasYesNum w g xs F h q (by omega)
        have HA2 : Hid (∀ j, j < k + 1 → 0 ≤ Z j ∧ Z j < (xs.length : Int)) := Lib.hid fun j hj => by
          by_cases e : j = k
          · subst e; rw [hzk]; exact hv
          · exact HA.out j (by omega)
        clear hv hzk hZ
        go_wp2_with (go_at_call 62; (with_reducible refine hy.mono ?_); rintro e w1 ⟨rfl, rfl⟩)
        go_round
        case rel => exact ⟨k + 1, by omega, by go_num, HA2⟩
        case measure => simp [intOf]; omega
      · have hy := hasNoNum w g xs F h z (by omega)
        clear hv hzk hZ
        go_wp2_with (go_at_call 62; (with_reducible refine hy.mono ?_); rintro e w1 ⟨rfl, rfl⟩)
        go_ret2
        exact ⟨rfl, rfl⟩
    · exfalso
      obtain ⟨i, hi, hb⟩ := HB.out
      have := HA.out i (by omega)
      omega
set_option maxRecDepth 20000 in
set_option maxHeartbeats 6400000 in
theorem takeYesNum (w : World) (g : Nat) (xs : List (Option Int)) (F : Nat → Prop) (h : ColNum w g xs F) (hx : xs.length ≤ 17592186044416) (p : Option Addr) (n cap : Nat) (Z : Nat → Int) (hZ : IntL w p n Z) (hn : n ≤ 17592186044416) (hok : ∀ i, i < n → 0 ≤ Z i ∧ Z i < (xs.length : Int)) :
    Calls Tryd.prog 29 #[.pointer (some ⟨g, 0, none⟩), .slice p n cap] w fun e w' => ∃ g2 F2, e = .returned (.tuple #[.pointer (some ⟨g2, 0, none⟩), .int .i64 0]) ∧ Below w.heap.size w w' ∧ ColNum w' g2 (tk xs Z n) F2 ∧ ∀ i, F2 i → w.heap.size ≤ i := by
  have HO := Lib.hid hok
  clear hok
  have hn2 : n ≤ 17592186044416 := by omega
  have hnm : n ≤ maxLen := by unfold maxLen; omega
  have HNM := Lib.hid hnm
  clear hnm
  go_enter Tryd.func29, Tryd.ntmps29
  go_wp2_with fail
  go_loop [13] (fun i => ∃ k : Nat, k ≤ n ∧ i = .int .i64 k) (fun i => n - (intOf i).toNat)
  case atStart => exact ⟨0, Nat.zero_le _, rfl⟩
  case round =>
    obtain ⟨k, hk, rfl⟩ := hrel
    by_cases hlt : k < n
    · obtain ⟨b, o, hix, hc⟩ := hZ.at (cap := cap) HNM.out k hlt
      have hv := HO.out k hlt
      generalize Z k = z at *
      obtain ⟨q, rfl⟩ : ∃ q : Nat, z = q := ⟨z.toNat, by omega⟩
      have hy := hasYesNum w g xs F h q (by omega)
      clear hv hZ
      go_wp2_with (go_at_call 62; (with_reducible refine hy.mono ?_); rintro e w1 ⟨rfl, rfl⟩)
      go_round
      case rel => exact ⟨k + 1, by omega, by go_num⟩
      case measure => simp [intOf]; omega
    · clear hk
      go_wp2_with (go_at_call 23; (with_reducible refine (newColNum _).mono ?_); rintro e w1 ⟨g2, F2, rfl, hb1, c1, m1⟩)
      have hh := h.below hb1
      go_loopw [25] (fun s25 wr => ∃ (j : Nat) (F2 : Nat → Prop), j ≤ n ∧ s25 = .int .i64 j ∧ ColNum wr g2 (tk xs Z j) F2 ∧ (∀ i, F2 i → w.heap.size ≤ i) ∧ Below w.heap.size w wr) (fun s25 _ => n - (intOf s25).toNat)
      case atStart => exact ⟨0, F2, Nat.zero_le _, rfl, c1, m1, hb1⟩
      case round =>
        clear c1 m1 hh hb1
        obtain ⟨j, F3, hj, rfl, c3, m3, b3⟩ := hrel
        by_cases hjn : j < n
        · obtain ⟨b, o, hix, hc⟩ := (hZ.below b3).at (cap := cap) HNM.out j hjn
          have hv := HO.out j hjn
          have hS := tk_succ xs Z j
          have hl := tk_length xs Z j
          generalize Z j = z at *
          obtain ⟨q, rfl⟩ : ∃ q : Nat, z = q := ⟨z.toNat, by omega⟩
          have hq : q < xs.length := by omega
          have hqx : xs[q]? = some (xs.getD q none) := by rw [List.getD_eq_getElem?_getD, List.getElem?_eq_getElem hq]; rfl
          have hcol := h.below b3
          obtain ⟨v, u, h1, h2, h3, h4⟩ := hcol
          have hbm : (xs.map Option.isNone)[q]? = some (xs.getD q none).isNone := by rw [List.getElem?_map, hqx]; rfl
          have hat := atM wr g 109 v u _ h1 h3 (by simp; omega) q _ hbm
          obtain ⟨r, cp, rfl, hcp, hce⟩ := row_cell h2 q hq
          have hSS : tk xs Z (j + 1) = tk xs Z j ++ [xs.getD q none] := hS
          have HS := Lib.hid hSS
          generalize xs.getD q none = y at *
          have c0 : wr.cell? ⟨g, 0, none⟩ = some (.slice (some ⟨r, 0, none⟩) xs.length cp) := cell_of h1 0 rfl
          cases y with
          | none =>
            have hat' : Calls Tryd.prog 63 #[.pointer (some ⟨g, 1, none⟩), .int .i64 q] wr fun e w' => e = .returned (.bool true) ∧ wr = w' := hat
            have hpn := putNullNum wr g2 _ F3 c3 (by rw [hl]; omega)
            clear h1 h2 h3 h4 hbm hat hv hS hSS hl hZ hce hqx
            go_wp2_with (first
              | (go_at_call 63; (with_reducible refine hat'.mono ?_); rintro e w4 ⟨rfl, rfl⟩)
              | (go_at_call 24; (with_reducible refine hpn.mono ?_); rintro e w5 ⟨rfl, F5, c5, t5⟩))
            go_roundw
            case rel => exact ⟨j + 1, F5, by omega, by go_num, by rw [HS.out]; exact c5, turn_low t5 b3.size m3, b3.trans (t5.ch.below b3.size m3)⟩
            case measure => simp [intOf]; omega
          | some z =>
            have hat' : Calls Tryd.prog 63 #[.pointer (some ⟨g, 1, none⟩), .int .i64 q] wr fun e w' => e = .returned (.bool false) ∧ wr = w' := hat
            have hpn := putNum wr g2 _ F3 c3 (by rw [hl]; omega) z
            have hcz : wr.cell? ⟨r, q, none⟩ = some (.int .i64 z) := by rw [hce, cellsNum_map, List.getElem?_map, hqx]; rfl
            clear h1 h2 h3 h4 hbm hat hv hS hSS hl hZ hce hqx
            go_wp2_with (first
              | (go_at_call 63; (with_reducible refine hat'.mono ?_); rintro e w4 ⟨rfl, rfl⟩)
              | (go_at_call 25; (with_reducible refine hpn.mono ?_); rintro e w5 ⟨rfl, F5, c5, t5⟩))
            go_roundw
            case rel => exact ⟨j + 1, F5, by omega, by go_num, by rw [HS.out]; exact c5, turn_low t5 b3.size m3, b3.trans (t5.ch.below b3.size m3)⟩
            case measure => simp [intOf]; omega
        · obtain rfl : j = n := by omega
          go_wp2_with fail
          go_ret2
          exact ⟨g2, F3, rfl, b3, c3, m3⟩
end Go.Proofs.YtffbcccbhofbpaaDoor
