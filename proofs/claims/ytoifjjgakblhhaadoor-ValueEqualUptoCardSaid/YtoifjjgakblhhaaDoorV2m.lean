/- Same, for values in one another. -/
import Derived.Test.YtoifjjgakblhhaaDoorV1m
namespace Go.Proofs.YtoifjjgakblhhaaDoor
open Go.RowKit

set_option maxHeartbeats 1600000 in
theorem same_step (v : Val) (k : Int) (b : Bool) (n : Int) (t x : ByteArray) (q : List Val) (ev : v = .mk k b n t x q) (each : ∀ u ∈ q, SameAt u) : SameAt v := by
  subst ev
  intro W k1 b1 n1 t1 x1 q1 p cap v2 k2 b2 n2 t2 x2 q2 p2 cap2 e1 e2 hn hl hl2
  cases e1
  subst e2
  unfold sameP
  obtain ⟨c1, hc1⟩ : ∃ c1, c1 = Obj.cells #[.int .i64 k, .bool b, .int .i64 n, .string t, .string x, .slice p q.length cap] 28 := ⟨_, rfl⟩
  obtain ⟨c2, hc2⟩ : ∃ c2, c2 = Obj.cells #[.int .i64 k2, .bool b2, .int .i64 n2, .string t2, .string x2, .slice p2 q2.length cap2] 28 := ⟨_, rfl⟩
  have b0 := below2 W c1 c2
  have hc := eqFuncAt q q2 p p2 cap cap2 ((W.alloc c1).alloc c2) (Held.below q hl b0) (Held.below q2 hl2 b0) hn each
  have l0 : Six ((W.alloc c1).alloc c2) W.heap.size k b n t x p q.length cap := by rw [hc1]; exact (six_new _ rfl).alloc _
  have l1 : Six ((W.alloc c1).alloc c2) (W.heap.size + 1) k2 b2 n2 t2 x2 p2 q2.length cap2 := by rw [hc2]; exact six_new _ (by simp)
  have z0 := b0.size
  have f0 := l0.c0
  have f1 := l0.c1
  have f2 := l0.c2
  have f3 := l0.c3
  have f4 := l0.c4
  have f5 := l0.c5
  have g0 := l1.c0
  have g1 := l1.c1
  have g2 := l1.c2
  have g3 := l1.c3
  have g4 := l1.c4
  have g5 := l1.c5
  clear l0 l1 hl hl2 each hn
  subst hc1 hc2
  cases a0 : (k == k2) with
  | false =>
    rw [Bool.false_and]
    go_enter Tryd.func12, Tryd.ntmps12
    go_wp2_with fail
    go_ret
    exact ⟨rfl, b0⟩
  | true =>
    rw [Bool.true_and]
    cases a1 : (b == b2) with
    | false =>
      rw [Bool.false_and]
      go_enter Tryd.func12, Tryd.ntmps12
      go_wp2_with fail
      go_ret
      exact ⟨rfl, b0⟩
    | true =>
      rw [Bool.true_and]
      cases a2 : (n == n2) with
      | false =>
        rw [Bool.false_and]
        go_enter Tryd.func12, Tryd.ntmps12
        go_wp2_with fail
        go_ret
        exact ⟨rfl, b0⟩
      | true =>
        rw [Bool.true_and]
        cases a3 : (t.toList == t2.toList) with
        | false =>
          rw [Bool.false_and]
          go_enter Tryd.func12, Tryd.ntmps12
          go_wp2_with fail
          go_ret
          exact ⟨rfl, b0⟩
        | true =>
          rw [Bool.true_and]
          cases a4 : (x.toList == x2.toList) with
          | false =>
            rw [Bool.false_and]
            go_enter Tryd.func12, Tryd.ntmps12
            go_wp2_with fail
            go_ret
            exact ⟨rfl, b0⟩
          | true =>
            rw [Bool.true_and]
            generalize (q.length == q2.length && eachSame q q2) = r at hc ⊢
            go_enter Tryd.func12, Tryd.ntmps12
            go_wp2_with (go_at_call 21; (with_reducible refine hc.mono ?_); rintro e w3 ⟨rfl, hb3⟩; replace b0 := below_any b0 hb3 z0)
            go_ret
            exact ⟨rfl, b0⟩

mutual
theorem sameAll : (v : Val) → SameAt v
  | .mk k b n t x q => same_step _ k b n t x q rfl (sameEach q)
theorem sameEach : (q : List Val) → ∀ u ∈ q, SameAt u
  | [], _, h => absurd h (by simp)
  | v :: r, u, h => by
    rcases List.mem_cons.1 h with h | h
    · rw [h]; exact sameAll v
    · exact sameEach r u h
end
end Go.Proofs.YtoifjjgakblhhaaDoor
