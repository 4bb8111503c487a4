/- The law LogicAll of no numbers; at any list. -/
import Derived.Test.YtdnijfkiebpnpaaI0
import Derived.Test.YtdnijfkiebpnpaaE0
namespace Go.Proofs.Ytdnijfkiebpnpaa
open Go.RowKit

theorem allAsk0 (pb qb cap : Nat) (p : Option Addr) (N : Nat) (w : World) (hN : N ≤ w.heap.size)
    (hpc : w.heap[pb]? = some (.cells #[.slice p 0 cap] 24)) (hqc : w.heap[qb]? = some (.cells #[.int .i64 0] 3)) :
    Calls Try.prog 17 #[.func (.func 16) #[] #[.pointer (some ⟨pb, 0, none⟩), .pointer (some ⟨qb, 0, none⟩)]] w fun e w' => e = .returned (.int .i64 1) ∧
      w'.heap[qb]? = some (.cells #[.int .i64 0] 3) ∧ w'.heap[pb]? = some (.cells #[.slice p 0 cap] 24) ∧ Below N w w' := by
  have hp := heapLt hpc
  have hq := heapLt hqc
  refine (allAt 16 _ enters16 [] _ N w hN (fun pre A B h k => ⟨(k.block _ hq).trans h.1, (k.block _ hp).trans h.2⟩) (countNone pb qb cap p N w.heap.size w hq hp hpc hqc)).mono ?_
  rintro e w' ⟨pre, rfl, ⟨h1, h2⟩, hb, hend⟩
  obtain rfl : pre = [] := List.prefix_nil.1 hend.1
  exact ⟨rfl, h1, h2, hb⟩
theorem anyAsk0 (pb qb cap : Nat) (p : Option Addr) (N : Nat) (w : World) (hN : N ≤ w.heap.size)
    (hpc : w.heap[pb]? = some (.cells #[.slice p 0 cap] 24)) (hqc : w.heap[qb]? = some (.cells #[.int .i64 0] 3)) :
    Calls Try.prog 18 #[.func (.func 16) #[] #[.pointer (some ⟨pb, 0, none⟩), .pointer (some ⟨qb, 0, none⟩)]] w fun e w' => e = .returned (.int .i64 0) ∧
      w'.heap[qb]? = some (.cells #[.int .i64 0] 3) ∧ w'.heap[pb]? = some (.cells #[.slice p 0 cap] 24) ∧ Below N w w' := by
  have hp := heapLt hpc
  have hq := heapLt hqc
  refine (anyAt 16 _ enters16 [] _ N w hN (fun pre A B h k => ⟨(k.block _ hq).trans h.1, (k.block _ hp).trans h.2⟩) (countNone pb qb cap p N w.heap.size w hq hp hpc hqc)).mono ?_
  rintro e w' ⟨pre, rfl, ⟨h1, h2⟩, hb, hend⟩
  obtain rfl : pre = [] := List.prefix_nil.1 hend.1
  exact ⟨rfl, h1, h2, hb⟩

set_option maxRecDepth 20000 in
set_option maxHeartbeats 1600000 in
theorem allNone (p : Option Addr) (cap : Nat) (w : World) :
    Calls Try.prog 5 #[.agg #[.slice p 0 cap]] w fun e w' => e = .returned (.bool true) ∧ Below w.heap.size w w' := by
  have hm := hmf
  obtain ⟨W0, hW0⟩ : ∃ W0, W0 = (w.alloc (.cells #[.slice p 0 cap] 24)).alloc (.cells #[.int .i64 0] 3) := ⟨_, rfl⟩
  have hb0 : Below w.heap.size w W0 := by rw [hW0]; exact (below1 w _).alloc (by simp) _
  have hp0 : W0.heap[w.heap.size]? = some (.cells #[.slice p 0 cap] 24) := by rw [hW0]; exact heapO _ (heapN _ _ rfl)
  have hq0 : W0.heap[w.heap.size + 1]? = some (.cells #[.int .i64 0] 3) := by rw [hW0]; exact heapN _ _ (by simp)
  obtain ⟨c11, c12⟩ := cellAt hp0
  have HW0 := Lib.hid hW0
  have H0 := Lib.hid (And.intro hb0 (And.intro hp0 hq0))
  clear hb0 hp0 hq0 hW0
  go_enter Try.func5, Try.ntmps5
  go_wp2_with fail
  rw [← HW0.out]
  go_loopg [5, 6, 7, 8, 9] 0 (fun gg s5 s6 s7 s8 s9 wr => s5 = .int .i64 1 ∧ s6 = .int .i64 0 ∧ s7 = .int .i64 0 ∧ s8 = .int .i64 0 ∧ s9 = .int .i64 0 ∧ gg = 0 ∧ wr = W0)
  case atStart => exact ⟨rfl, rfl, rfl, rfl, rfl, rfl, rfl⟩
  case round =>
    obtain ⟨rfl, rfl, rfl, rfl, rfl, _, rfl⟩ := hrel
    have hc1 := allAsk0 w.heap.size (w.heap.size + 1) cap p w.heap.size wr H0.out.1.size H0.out.2.1 H0.out.2.2
    have I := And.intro H0.out.1 H0.out.1.size
    go_wp2_with (first
      | (go_at_call 17; (with_reducible refine hc1.mono ?_); rintro e w1 ⟨rfl, hq1, hp1, hb1⟩; replace I := And.intro (I.1.trans hb1) (Nat.le_trans I.2 hb1.size); obtain ⟨d1, d2⟩ := cellAt hq1; have hc3 := anyAsk0 w.heap.size (w.heap.size + 1) cap p w.heap.size (w1.setCell ⟨w.heap.size + 1, 0, none⟩ (.int .i64 0)) (by simp [World.setCell]; exact I.2) ((Below.heap_setCell _ _ _ _ (show w.heap.size ≠ w.heap.size + 1 by omega)).trans hp1) (heapSet hq1 (.int .i64 0)))
      | (go_at_call 18; (with_reducible refine hc3.mono ?_); rintro e w3 ⟨rfl, hq3, hp3, hb3⟩; replace I := And.intro ((I.1.setCell (p := ⟨w.heap.size + 1, 0, none⟩) (show w.heap.size ≤ w.heap.size + 1 by omega) (.int .i64 0)).trans hb3) (Nat.le_trans I.2 (Nat.le_trans (by simp [World.setCell]) hb3.size)); obtain ⟨d3, d4⟩ := cellAt hq3)
      | (go_at_call 17; (with_reducible refine (allNil _).mono ?_); rintro e w4 ⟨rfl, hb4⟩; replace I := below_then I.1 I.2 hb4)
      | (go_at_call 18; (with_reducible refine (anyNil _).mono ?_); rintro e w5 ⟨rfl, hb5⟩; replace I := below_then I.1 I.2 hb5)
      | (go_at_call 15; (with_reducible refine (wakesAt _).mono ?_); rintro e w6 ⟨rfl, hb6⟩; replace I := below_then I.1 I.2 hb6))
    go_ret
    exact ⟨rfl, I.1⟩

theorem allAnyList (L : Value) (w : World) (h : Nums w L) :
    Calls Try.prog 5 #[.agg #[L]] w fun e w' => e = .returned (.bool true) ∧ Below w.heap.size w w' := by
  rcases h with ⟨p, n, cap, rfl, hn⟩ | ⟨b, off, n, cap, Z, rfl, hS, hn, _⟩
  · subst hn
    exact allNone p cap w
  · by_cases h0 : n = 0
    · subst h0
      exact allNone _ cap w
    · exact allSome b off n cap Z w hS hn (World.block_lt_of_cell? w _ (hS 0 (by omega)))
end Go.Proofs.Ytdnijfkiebpnpaa
