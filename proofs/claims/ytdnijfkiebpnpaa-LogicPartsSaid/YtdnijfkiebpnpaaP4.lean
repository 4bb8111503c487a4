/- The law LogicParts of none and of many numbers; at any list. -/
import Derived.Test.YtdnijfkiebpnpaaP3
import Derived.Test.YtdnijfkiebpnpaaE0
namespace Go.Proofs.Ytdnijfkiebpnpaa
open Go.RowKit

theorem firstA0 {w W : World} {pb nb cap : Nat} {p : Option Addr} (h : Box w pb nb p 0 cap 0 W) (hcm : cap ≤ maxLen) :
    Calls Try.prog 17 #[.func (.func 19) #[] #[.pointer (some ⟨pb, 0, none⟩), .pointer (some ⟨nb, 0, none⟩)]] W fun e w' => e = .returned (.int .i64 1) ∧ Box w pb nb p 0 cap 0 w' := by
  have l1 := heapLt h.hp
  have l2 := heapLt h.hq
  have hs := h.bel.size
  refine (allOf 19 _ (enters_of Try.func19 (by kernel_rfl) rfl) (fun _ => 0) 0 (Box w pb nb p 0 cap 0) w.heap.size W hs (fun A B hA hAB => ⟨(hAB.block _ l1).trans hA.hp, (hAB.block _ l2).trans hA.hq, hA.bel.trans (hAB.mono hs)⟩) ?_).mono ?_
  · exact firstSeq _ pb nb 0 0 cap p (fun _ => 0) w.heap.size W.heap.size W l1 l2 (by omega) (by omega) (Nat.zero_le _) hcm (Nat.le_refl _) (fun A B hA hAB => ⟨(hAB.block _ l1).trans hA.hp, (hAB.block _ l2).trans hA.hq, hA.bel.trans (hAB.mono hs)⟩) h h.hp h.hq (.inl rfl)
  · rintro e w' ⟨rfl, h2, _⟩
    exact ⟨rfl, h2⟩
theorem firstO0 {w W : World} {pb nb cap : Nat} {p : Option Addr} (h : Box w pb nb p 0 cap 0 W) (hcm : cap ≤ maxLen) :
    Calls Try.prog 18 #[.func (.func 19) #[] #[.pointer (some ⟨pb, 0, none⟩), .pointer (some ⟨nb, 0, none⟩)]] W fun e w' => e = .returned (.int .i64 0) ∧ Box w pb nb p 0 cap 0 w' := by
  have l1 := heapLt h.hp
  have l2 := heapLt h.hq
  have hs := h.bel.size
  refine (anyOf 19 _ (enters_of Try.func19 (by kernel_rfl) rfl) (fun _ => 0) 0 (Box w pb nb p 0 cap 0) w.heap.size W hs (fun A B hA hAB => ⟨(hAB.block _ l1).trans hA.hp, (hAB.block _ l2).trans hA.hq, hA.bel.trans (hAB.mono hs)⟩) ?_).mono ?_
  · exact firstSeq _ pb nb 0 0 cap p (fun _ => 0) w.heap.size W.heap.size W l1 l2 (by omega) (by omega) (Nat.zero_le _) hcm (Nat.le_refl _) (fun A B hA hAB => ⟨(hAB.block _ l1).trans hA.hp, (hAB.block _ l2).trans hA.hq, hA.bel.trans (hAB.mono hs)⟩) h h.hp h.hq (.inl rfl)
  · rintro e w' ⟨rfl, h2, _⟩
    exact ⟨rfl, h2⟩
theorem restA0 {w W : World} {pb nb cap : Nat} {p : Option Addr} (h : Box w pb nb p 0 cap 0 W) (hcm : cap ≤ maxLen) :
    Calls Try.prog 17 #[.func (.func 21) #[] #[.pointer (some ⟨pb, 0, none⟩), .pointer (some ⟨nb, 0, none⟩)]] W fun e w' => e = .returned (.int .i64 1) ∧ Box w pb nb p 0 cap 0 w' := by
  have l1 := heapLt h.hp
  have l2 := heapLt h.hq
  have hs := h.bel.size
  refine (allOf 21 _ (enters_of Try.func21 (by kernel_rfl) rfl) (fun _ => 0) 0 (Box w pb nb p 0 cap 0) w.heap.size W hs (fun A B hA hAB => ⟨(hAB.block _ l1).trans hA.hp, (hAB.block _ l2).trans hA.hq, hA.bel.trans (hAB.mono hs)⟩) ?_).mono ?_
  · exact restNone _ pb nb cap p w.heap.size W.heap.size W l1 l2 hcm (Nat.le_refl _) (fun A B hA hAB => ⟨(hAB.block _ l1).trans hA.hp, (hAB.block _ l2).trans hA.hq, hA.bel.trans (hAB.mono hs)⟩) h h.hp h.hq
  · rintro e w' ⟨rfl, h2, _⟩
    exact ⟨rfl, h2⟩
theorem restO0 {w W : World} {pb nb cap : Nat} {p : Option Addr} (h : Box w pb nb p 0 cap 0 W) (hcm : cap ≤ maxLen) :
    Calls Try.prog 18 #[.func (.func 21) #[] #[.pointer (some ⟨pb, 0, none⟩), .pointer (some ⟨nb, 0, none⟩)]] W fun e w' => e = .returned (.int .i64 0) ∧ Box w pb nb p 0 cap 0 w' := by
  have l1 := heapLt h.hp
  have l2 := heapLt h.hq
  have hs := h.bel.size
  refine (anyOf 21 _ (enters_of Try.func21 (by kernel_rfl) rfl) (fun _ => 0) 0 (Box w pb nb p 0 cap 0) w.heap.size W hs (fun A B hA hAB => ⟨(hAB.block _ l1).trans hA.hp, (hAB.block _ l2).trans hA.hq, hA.bel.trans (hAB.mono hs)⟩) ?_).mono ?_
  · exact restNone _ pb nb cap p w.heap.size W.heap.size W l1 l2 hcm (Nat.le_refl _) (fun A B hA hAB => ⟨(hAB.block _ l1).trans hA.hp, (hAB.block _ l2).trans hA.hq, hA.bel.trans (hAB.mono hs)⟩) h h.hp h.hq
  · rintro e w' ⟨rfl, h2, _⟩
    exact ⟨rfl, h2⟩
theorem wholeA0 {w W : World} {pb nb cap : Nat} {p : Option Addr} (h : Box w pb nb p 0 cap 0 W) (hcm : cap ≤ maxLen) :
    Calls Try.prog 17 #[.func (.func 22) #[] #[.pointer (some ⟨pb, 0, none⟩)]] W fun e w' => e = .returned (.int .i64 1) ∧ Box w pb nb p 0 cap 0 w' := by
  have l1 := heapLt h.hp
  have l2 := heapLt h.hq
  have hs := h.bel.size
  refine (allOf 22 _ (enters_of Try.func22 (by kernel_rfl) rfl) (fun _ => 0) 0 (Box w pb nb p 0 cap 0) w.heap.size W hs (fun A B hA hAB => ⟨(hAB.block _ l1).trans hA.hp, (hAB.block _ l2).trans hA.hq, hA.bel.trans (hAB.mono hs)⟩) ?_).mono ?_
  · exact wholeSeq _ pb 0 cap p (fun _ => 0) w.heap.size W.heap.size W l1 (by omega) (Nat.le_refl _) (fun A B hA hAB => ⟨(hAB.block _ l1).trans hA.hp, (hAB.block _ l2).trans hA.hq, hA.bel.trans (hAB.mono hs)⟩) h h.hp (.inl rfl)
  · rintro e w' ⟨rfl, h2, _⟩
    exact ⟨rfl, h2⟩
theorem wholeO0 {w W : World} {pb nb cap : Nat} {p : Option Addr} (h : Box w pb nb p 0 cap 0 W) (hcm : cap ≤ maxLen) :
    Calls Try.prog 18 #[.func (.func 22) #[] #[.pointer (some ⟨pb, 0, none⟩)]] W fun e w' => e = .returned (.int .i64 0) ∧ Box w pb nb p 0 cap 0 w' := by
  have l1 := heapLt h.hp
  have l2 := heapLt h.hq
  have hs := h.bel.size
  refine (anyOf 22 _ (enters_of Try.func22 (by kernel_rfl) rfl) (fun _ => 0) 0 (Box w pb nb p 0 cap 0) w.heap.size W hs (fun A B hA hAB => ⟨(hAB.block _ l1).trans hA.hp, (hAB.block _ l2).trans hA.hq, hA.bel.trans (hAB.mono hs)⟩) ?_).mono ?_
  · exact wholeSeq _ pb 0 cap p (fun _ => 0) w.heap.size W.heap.size W l1 (by omega) (Nat.le_refl _) (fun A B hA hAB => ⟨(hAB.block _ l1).trans hA.hp, (hAB.block _ l2).trans hA.hq, hA.bel.trans (hAB.mono hs)⟩) h h.hp (.inl rfl)
  · rintro e w' ⟨rfl, h2, _⟩
    exact ⟨rfl, h2⟩
theorem notsO0 {w W : World} {pb nb cap : Nat} {p : Option Addr} (h : Box w pb nb p 0 cap 0 W) (hcm : cap ≤ maxLen) :
    Calls Try.prog 18 #[.func (.func 23) #[] #[.pointer (some ⟨pb, 0, none⟩)]] W fun e w' => e = .returned (.int .i64 0) ∧ Box w pb nb p 0 cap 0 w' := by
  have l1 := heapLt h.hp
  have l2 := heapLt h.hq
  have hs := h.bel.size
  refine (anyOf 23 _ (enters_of Try.func23 (by kernel_rfl) rfl) (neg true fun _ => 0) 0 (Box w pb nb p 0 cap 0) w.heap.size W hs (fun A B hA hAB => ⟨(hAB.block _ l1).trans hA.hp, (hAB.block _ l2).trans hA.hq, hA.bel.trans (hAB.mono hs)⟩) ?_).mono ?_
  · exact notsSeq _ pb 0 cap p (fun _ => 0) w.heap.size W.heap.size W l1 (by omega) (Nat.le_refl _) (fun A B hA hAB => ⟨(hAB.block _ l1).trans hA.hp, (hAB.block _ l2).trans hA.hq, hA.bel.trans (hAB.mono hs)⟩) h h.hp (.inl rfl)
  · rintro e w' ⟨rfl, h2, _⟩
    exact ⟨rfl, h2⟩

theorem partsMany (p : Option Addr) (n cap : Nat) (w : World) (hn : (60 : Int) < n) :
    Calls Try.prog 6 #[.agg #[.slice p n cap]] w fun e w' => e = .returned (.bool true) ∧ Below w.heap.size w w' := by
  have hb0 := below1 w (.cells #[.slice p n cap] 24)
  have hc := cell_new1 w (.slice p n cap) 24
  go_enter Try.func6, Try.ntmps6
  go_wp2_with (go_at_call 15; (with_reducible refine (wakesAt _).mono ?_); rintro e w1 ⟨rfl, hb1⟩)
  go_ret
  exact ⟨rfl, hb0.trans (hb1.mono (by simp))⟩

set_option maxRecDepth 20000 in
set_option maxHeartbeats 6400000 in
theorem partsNone (p : Option Addr) (cap : Nat) (w : World) (hcm : cap ≤ maxLen) :
    Calls Try.prog 6 #[.agg #[.slice p 0 cap]] w fun e w' => e = .returned (.bool true) ∧ Below w.heap.size w w' := by
  have hm := hmf
  have g9 : ∀ W, Calls Try.prog 9 #[.int .i64 1, .int .i64 1] W fun e w' => e = .returned (.int .i64 1) ∧ Below W.heap.size W w' := fun W => andAt 1 1 W
  have g11 : ∀ W, Calls Try.prog 11 #[.int .i64 0, .int .i64 0] W fun e w' => e = .returned (.int .i64 0) ∧ Below W.heap.size W w' := fun W => orAt 0 0 W
  have g7 : ∀ W, Calls Try.prog 7 #[.int .i64 0] W fun e w' => e = .returned (.int .i64 1) ∧ Below W.heap.size W w' := fun W => notAt 0 W
  have HC := Lib.hid hcm
  clear hcm
  obtain ⟨W0, hW0⟩ : ∃ W0, W0 = (w.alloc (.cells #[.slice p 0 cap] 24)).alloc (.cells #[.int .i64 0] 3) := ⟨_, rfl⟩
  have B0 : Box w w.heap.size (w.heap.size + 1) p 0 cap 0 W0 := by
    rw [hW0]
    exact ⟨heapO _ (heapN _ _ rfl), heapN _ _ (by simp), (below1 w _).alloc (by simp) _⟩
  have HW0 := Lib.hid hW0
  clear hW0
  go_enter Try.func6, Try.ntmps6
  go_wp2_with fail
  rw [← HW0.out]
  go_loopg [3] 2 (fun gg s3 wr => ∃ k nb : Nat, k ≤ 1 ∧ k + gg = 2 ∧ s3 = .pointer (some ⟨nb, 0, none⟩) ∧ Box w w.heap.size nb p 0 cap k wr)
  case atStart => exact ⟨0, _, by omega, by omega, rfl, B0⟩
  case round =>
    clear B0
    obtain ⟨k, nb, hk1, hkg, rfl, I⟩ := hrel
    by_cases h0 : k = 0
    · subst h0
      obtain ⟨c11, c12⟩ := cellAt I.hp
      have c21 : wr.cell? ⟨nb, 0, none⟩ = some (.int .i64 0) := (cellAt I.hq).1
      have HK := Lib.hid hkg
      clear hk1 hkg
      go_wp2_with (first
          | (go_at_call 17; (with_reducible refine (firstA0 I HC.out).mono ?_); rintro e w' ⟨rfl, h⟩; replace I := h; clear h)
          | (go_at_call 17; (with_reducible refine (restA0 I HC.out).mono ?_); rintro e w' ⟨rfl, h⟩; replace I := h; clear h)
          | (go_at_call 17; (with_reducible refine (wholeA0 I HC.out).mono ?_); rintro e w' ⟨rfl, h⟩; replace I := h; clear h)
          | (go_at_call 18; (with_reducible refine (firstO0 I HC.out).mono ?_); rintro e w' ⟨rfl, h⟩; replace I := h; clear h)
          | (go_at_call 18; (with_reducible refine (restO0 I HC.out).mono ?_); rintro e w' ⟨rfl, h⟩; replace I := h; clear h)
          | (go_at_call 18; (with_reducible refine (wholeO0 I HC.out).mono ?_); rintro e w' ⟨rfl, h⟩; replace I := h; clear h)
          | (go_at_call 18; (with_reducible refine (notsO0 I HC.out).mono ?_); rintro e w' ⟨rfl, h⟩; replace I := h; clear h)
          | (go_at_call 9; (with_reducible refine (g9 _).mono ?_); rintro e w' ⟨rfl, h⟩; replace I := I.below h; clear h)
          | (go_at_call 11; (with_reducible refine (g11 _).mono ?_); rintro e w' ⟨rfl, h⟩; replace I := I.below h; clear h)
          | (go_at_call 7; (with_reducible refine (g7 _).mono ?_); rintro e w' ⟨rfl, h⟩; replace I := I.below h; obtain ⟨d21, d22⟩ := cellAt I.hq; clear h))
      go_roundg (gk - 1)
      case measure => have := HK.out; omega
      case rel => exact ⟨1, _, by omega, by have := HK.out; omega, rfl, I.next⟩
    · obtain rfl : k = 1 := by omega
      obtain ⟨c11, c12⟩ := cellAt I.hp
      have c21 : wr.cell? ⟨nb, 0, none⟩ = some (.int .i64 1) := (cellAt I.hq).1
      clear h0 hk1 hkg
      go_wp2_with (first
        | (go_at_call 7; (with_reducible refine (g7 _).mono ?_); rintro e w' ⟨rfl, h⟩; replace I := I.below h; clear h)
        | (go_at_call 15; (with_reducible refine (wakesAt _).mono ?_); rintro e w' ⟨rfl, h⟩; replace I := I.below h; clear h))
      go_ret
      exact ⟨rfl, I.bel⟩

theorem partsAny (L : Value) (w : World) (h : Nums w L) :
    Calls Try.prog 6 #[.agg #[L]] w fun e w' => e = .returned (.bool true) ∧ Below w.heap.size w w' := by
  rcases h with ⟨p, n, cap, rfl, hn, hcm⟩ | ⟨b, off, n, cap, Z, rfl, hS, hn, hcap, hcm⟩
  · subst hn
    exact partsNone p cap w hcm
  · by_cases h0 : n = 0
    · subst h0
      exact partsNone _ cap w hcm
    · by_cases h60 : n ≤ 60
      · exact partsSome b off n cap Z w hS h60 hcap hcm (World.block_lt_of_cell? w _ (hS 0 (by omega)))
      · exact partsMany _ n cap w (by omega)
end Go.Proofs.Ytdnijfkiebpnpaa
