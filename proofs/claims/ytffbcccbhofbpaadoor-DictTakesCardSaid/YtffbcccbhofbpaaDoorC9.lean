/- A column of pairs: cells taken by their numbers. -/
import Derived.Test.YtffbcccbhofbpaaDoorC10
import Derived.Test.YtffbcccbhofbpaaDoorC8
namespace Go.Proofs.YtffbcccbhofbpaaDoor
open Go.RowKit

set_option maxRecDepth 20000 in
set_option maxHeartbeats 6400000 in
theorem takeYesPair (w : World) (g : Nat) (xs : List (Option (Int × ByteArray))) (F : Nat → Prop) (h : ColPair w g xs F) (hx : xs.length ≤ 17592186044416 / 4) (p : Option Addr) (n cap : Nat) (Z : Nat → Int) (hZ : IntL w p n Z) (hn : n ≤ 17592186044416 / 4) (hok : ∀ i, i < n → 0 ≤ Z i ∧ Z i < (xs.length : Int)) :
    Calls Tryd.prog 37 #[.pointer (some ⟨g, 0, none⟩), .slice p n cap] w fun e w' => ∃ g2 F2, e = .returned (.tuple #[.pointer (some ⟨g2, 0, none⟩), .int .i64 0]) ∧ Below w.heap.size w w' ∧ ColPair w' g2 (tk xs Z n) F2 ∧ ∀ i, F2 i → w.heap.size ≤ i := by
  have HO := Lib.hid hok
  clear hok
  have hn2 : n ≤ 17592186044416 := by omega
  have hnm : n ≤ maxLen := by unfold maxLen; omega
  have HNM := Lib.hid hnm
  clear hnm
  go_enter Tryd.func37, Tryd.ntmps37
  go_wp2_with fail
  go_loop [13] (fun i => ∃ k : Nat, k ≤ n ∧ i = .int .i64 k) (fun i => n - (intOf i).toNat)
  case atStart => exact ⟨0, Nat.zero_le _, rfl⟩
  case round =>
    obtain ⟨k, hk, rfl⟩ := hrel
    by_cases hlt : k < n
    · obtain ⟨b, o, hix, hc⟩ := hZ.at (cap := cap) HNM.out k hlt
      have hv := HO.out k hlt
      generalize Z k = z at *
      obtain ⟨q, rfl⟩ : ∃ q : Nat, z = q := ⟨z.toNat, by omega⟩
      have hy := hasYesPair w g xs F h q (by omega)
      clear hv hZ
      go_wp2_with (go_at_call 66; (with_reducible refine hy.mono ?_); rintro e w1 ⟨rfl, rfl⟩)
      go_round
      case rel => exact ⟨k + 1, by omega, by go_num⟩
      case measure => simp [intOf]; omega
    · clear hk
      go_wp2_with (go_at_call 32; (with_reducible refine (newColPair _).mono ?_); rintro e w1 ⟨g2, F2, rfl, hb1, c1, m1⟩)
      have hh := h.below hb1
      go_loopw [25] (fun s25 wr => ∃ (j : Nat) (F2 : Nat → Prop), j ≤ n ∧ s25 = .int .i64 j ∧ ColPair wr g2 (tk xs Z j) F2 ∧ (∀ i, F2 i → w.heap.size ≤ i) ∧ Below w.heap.size w wr) (fun s25 _ => n - (intOf s25).toNat)
      case atStart => exact ⟨0, F2, Nat.zero_le _, rfl, c1, m1, hb1⟩
      case round =>
        clear c1 m1 hh hb1
        obtain ⟨j, F3, hj, rfl, c3, m3, b3⟩ := hrel
        by_cases hjn : j < n
        · obtain ⟨b, o, hix, hc⟩ := (hZ.below b3).at (cap := cap) HNM.out j hjn
          have hv := HO.out j hjn
          have hS := tk_succ xs Z j
          have hl := tk_length xs Z j
          generalize Z j = z at *
          obtain ⟨q, rfl⟩ : ∃ q : Nat, z = q := ⟨z.toNat, by omega⟩
          have hq : q < xs.length := by omega
          have hqx : xs[q]? = some (xs.getD q none) := by rw [List.getD_eq_getElem?_getD, List.getElem?_eq_getElem hq]; rfl
          have hcol := h.below b3
          obtain ⟨v, u, h1, h2, h3, h4⟩ := hcol
          have hbm : (xs.map Option.isNone)[q]? = some (xs.getD q none).isNone := by rw [List.getElem?_map, hqx]; rfl
          have hat := atM wr g 117 v u _ h1 h3 (by simp; omega) q _ hbm
          obtain ⟨r, cp, rfl, hcp, hce⟩ := row_cell2 h2 q hq
          have hSS : tk xs Z (j + 1) = tk xs Z j ++ [xs.getD q none] := hS
          have HS := Lib.hid hSS
          generalize xs.getD q none = y at *
          have c0 : wr.cell? ⟨g, 0, none⟩ = some (.slice (some ⟨r, 0, none⟩) xs.length cp) := cell_of h1 0 rfl
          cases y with
          | none =>
            have hat' : Calls Tryd.prog 63 #[.pointer (some ⟨g, 1, none⟩), .int .i64 q] wr fun e w' => e = .returned (.bool true) ∧ wr = w' := hat
            have hpn := putNullPair wr g2 _ F3 c3 (by rw [hl]; omega)
            clear h1 h2 h3 h4 hbm hat hv hS hSS hl hZ hce hqx
            go_wp2_with (first
              | (go_at_call 63; (with_reducible refine hat'.mono ?_); rintro e w4 ⟨rfl, rfl⟩)
              | (go_at_call 34; (with_reducible refine hpn.mono ?_); rintro e w5 ⟨rfl, F5, c5, t5⟩))
            go_roundw
            case rel => exact ⟨j + 1, F5, by omega, by go_num, by rw [HS.out]; exact c5, turn_low t5 b3.size m3, b3.trans (t5.ch.below b3.size m3)⟩
            case measure => simp [intOf]; omega
          | some z =>
            have hat' : Calls Tryd.prog 63 #[.pointer (some ⟨g, 1, none⟩), .int .i64 q] wr fun e w' => e = .returned (.bool false) ∧ wr = w' := hat
            have hpn := putPair wr g2 _ F3 c3 (by rw [hl]; omega) z
            have hcz : wr.cell? ⟨r, q * 2, none⟩ = some (.int .i64 z.1) := (hce 0 (by omega)).trans (cellsPair_get _ _ _ hqx).1
            have hcz2 : wr.cell? ⟨r, q * 2 + 1, none⟩ = some (.string z.2) := (hce 1 (by omega)).trans (cellsPair_get _ _ _ hqx).2
            clear h1 h2 h3 h4 hbm hat hv hS hSS hl hZ hce hqx
            go_wp2_with (first
              | (go_at_call 63; (with_reducible refine hat'.mono ?_); rintro e w4 ⟨rfl, rfl⟩)
              | (go_at_call 36; (with_reducible refine hpn.mono ?_); rintro e w5 ⟨rfl, F5, c5, t5⟩))
            go_roundw
            case rel => exact ⟨j + 1, F5, by omega, by go_num, by rw [HS.out]; exact c5, turn_low t5 b3.size m3, b3.trans (t5.ch.below b3.size m3)⟩
            case measure => simp [intOf]; omega
        · obtain rfl : j = n := by omega
          go_wp2_with fail
          go_ret2
          exact ⟨g2, F3, rfl, b3, c3, m3⟩
end Go.Proofs.YtffbcccbhofbpaaDoor
