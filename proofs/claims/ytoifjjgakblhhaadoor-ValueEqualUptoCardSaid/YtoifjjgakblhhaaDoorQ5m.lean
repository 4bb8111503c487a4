/- A literal that may say the same as another value: isOpen. -/
import Derived.Test.YtoifjjgakblhhaaDoorQ4m
namespace Go.Proofs.YtoifjjgakblhhaaDoor
open Go.RowKit

def numB (k : Int) : Bool := k == 2 || k == 3
/-- Whether the first is a literal that may say the same as the second, though it isn't the same. -/
def openP (k k2 : Int) (same : Bool) : Bool := (k == 10) && (!same && (k2 == 10 || (k2 == 4 || (k2 == 1 || numB k2))))
theorem sameAtV (k : Int) (b : Bool) (n : Int) (t x : ByteArray) (q : List Val) (p : Option Addr) (cap : Nat) (k2 : Int) (b2 : Bool) (n2 : Int) (t2 x2 : ByteArray) (q2 : List Val) (p2 : Option Addr) (cap2 : Nat) (w : World) (hf : Fine n t x q.length) (hl : Held w (.slice p q.length cap) q) (hl2 : Held w (.slice p2 q2.length cap2) q2) :
    Calls Tryd.prog 12 #[.agg #[.int .i64 k, .bool b, .int .i64 n, .string t, .string x, .slice p q.length cap], .agg #[.int .i64 k2, .bool b2, .int .i64 n2, .string t2, .string x2, .slice p2 q2.length cap2]] w fun e w' => e = .returned (.bool (sameP (.mk k b n t x q) (.mk k2 b2 n2 t2 x2 q2))) ∧ Below w.heap.size w w' :=
  sameAll (.mk k b n t x q) w k b n t x q p cap (.mk k2 b2 n2 t2 x2 q2) k2 b2 n2 t2 x2 q2 p2 cap2 rfl rfl hf.hn hl hl2

set_option maxHeartbeats 1600000 in
theorem isOpenAt (k : Int) (b : Bool) (n : Int) (t x : ByteArray) (q : List Val) (p : Option Addr) (cap : Nat) (k2 : Int) (b2 : Bool) (n2 : Int) (t2 x2 : ByteArray) (q2 : List Val) (p2 : Option Addr) (cap2 : Nat) (w : World) (hf : Fine n t x q.length) (hl : Held w (.slice p q.length cap) q) (hl2 : Held w (.slice p2 q2.length cap2) q2) (r : Bool) (hr : r = sameP (.mk k b n t x q) (.mk k2 b2 n2 t2 x2 q2)) :
    Calls Tryd.prog 24 #[.agg #[.int .i64 k, .bool b, .int .i64 n, .string t, .string x, .slice p q.length cap], .agg #[.int .i64 k2, .bool b2, .int .i64 n2, .string t2, .string x2, .slice p2 q2.length cap2]] w fun e w' => e = .returned (.bool (openP k k2 r)) ∧ Below w.heap.size w w' := by
  obtain ⟨W0, hW0⟩ : ∃ W0, W0 = (w.alloc (.cells #[.int .i64 k, .bool b, .int .i64 n, .string t, .string x, .slice p q.length cap] 28)).alloc (.cells #[.int .i64 k2, .bool b2, .int .i64 n2, .string t2, .string x2, .slice p2 q2.length cap2] 28) := ⟨_, rfl⟩
  have S4 : Six W0 w.heap.size k b n t x p q.length cap := by rw [hW0]; exact (six_new _ rfl).alloc _
  have S5 : Six W0 (w.heap.size + 1) k2 b2 n2 t2 x2 p2 q2.length cap2 := by rw [hW0]; exact six_new _ (by simp)
  have b0 : Below w.heap.size w W0 := by rw [hW0]; exact below2 _ _ _
  have f0 := S4.c0
  have g0 := S5.c0
  have H0 := Lib.hid hW0
  have hs := sameAtV k b n t x q p cap k2 b2 n2 t2 x2 q2 p2 cap2 W0 hf (Held.below q hl b0) (Held.below q2 hl2 b0)
  have hnum := fun W => isNumberAt k2 b2 n2 t2 x2 (.slice p2 q2.length cap2) W
  rw [← hr] at hs
  clear hl hl2 hf hr hW0
  unfold openP
  cases e10 : (k == 10) with
  | false =>
    rw [Bool.false_and]
    have e10' : (k != 10) = true := by simp [bne, e10]
    go_enter Tryd.func24, Tryd.ntmps24
    go_wp2_with fail
    rw [← H0.out]
    go_wp2_with (first
      | ((with_reducible refine wpList_load6g (.tmp 2) w.heap.size S4 ?_ ?_ ?_ ?_); rfl; rfl; rfl)
      | ((with_reducible refine wpList_load6g (.tmp 3) (w.heap.size + 1) S5 ?_ ?_ ?_ ?_); rfl; rfl; rfl))
    go_ret
    exact ⟨rfl, b0⟩
  | true =>
    rw [Bool.true_and]
    have e10' : (k != 10) = false := by simp [bne, e10]
    cases r with
    | true =>
      rw [Bool.not_true, Bool.false_and]
      go_enter Tryd.func24, Tryd.ntmps24
      go_wp2_with fail
      rw [← H0.out]
      go_wp2_with (first
        | ((with_reducible refine wpList_load6g (.tmp 2) w.heap.size S4 ?_ ?_ ?_ ?_); rfl; rfl; rfl)
        | ((with_reducible refine wpList_load6g (.tmp 3) (w.heap.size + 1) S5 ?_ ?_ ?_ ?_); rfl; rfl; rfl)
        | (go_at_call 12; (with_reducible refine (hs).mono ?_); rintro e w' ⟨rfl, hb⟩; replace S4 := S4.below hb; replace S5 := S5.below hb; replace b0 := below_any b0 hb b0.size; have f5 := S4.c5; have g5 := S5.c5; have f00 := S4.c0; have g00 := S5.c0; clear hb))
      go_ret
      exact ⟨rfl, b0⟩
    | false =>
      rw [Bool.not_false, Bool.true_and]
      cases a1 : (k2 == 10) with
      | true =>
        rw [Bool.true_or]
        go_enter Tryd.func24, Tryd.ntmps24
        go_wp2_with fail
        rw [← H0.out]
        go_wp2_with (first
          | ((with_reducible refine wpList_load6g (.tmp 2) w.heap.size S4 ?_ ?_ ?_ ?_); rfl; rfl; rfl)
          | ((with_reducible refine wpList_load6g (.tmp 3) (w.heap.size + 1) S5 ?_ ?_ ?_ ?_); rfl; rfl; rfl)
          | (go_at_call 12; (with_reducible refine (hs).mono ?_); rintro e w' ⟨rfl, hb⟩; replace S4 := S4.below hb; replace S5 := S5.below hb; replace b0 := below_any b0 hb b0.size; have f5 := S4.c5; have g5 := S5.c5; have f00 := S4.c0; have g00 := S5.c0; clear hb))
        go_ret
        exact ⟨rfl, b0⟩
      | false =>
        rw [Bool.false_or]
        cases a2 : (k2 == 4) with
        | true =>
          rw [Bool.true_or]
          go_enter Tryd.func24, Tryd.ntmps24
          go_wp2_with fail
          rw [← H0.out]
          go_wp2_with (first
            | ((with_reducible refine wpList_load6g (.tmp 2) w.heap.size S4 ?_ ?_ ?_ ?_); rfl; rfl; rfl)
            | ((with_reducible refine wpList_load6g (.tmp 3) (w.heap.size + 1) S5 ?_ ?_ ?_ ?_); rfl; rfl; rfl)
            | (go_at_call 12; (with_reducible refine (hs).mono ?_); rintro e w' ⟨rfl, hb⟩; replace S4 := S4.below hb; replace S5 := S5.below hb; replace b0 := below_any b0 hb b0.size; have f5 := S4.c5; have g5 := S5.c5; have f00 := S4.c0; have g00 := S5.c0; clear hb))
          go_ret
          exact ⟨rfl, b0⟩
        | false =>
          rw [Bool.false_or]
          cases a3 : (k2 == 1) with
          | true =>
            rw [Bool.true_or]
            go_enter Tryd.func24, Tryd.ntmps24
            go_wp2_with fail
            rw [← H0.out]
            go_wp2_with (first
              | ((with_reducible refine wpList_load6g (.tmp 2) w.heap.size S4 ?_ ?_ ?_ ?_); rfl; rfl; rfl)
              | ((with_reducible refine wpList_load6g (.tmp 3) (w.heap.size + 1) S5 ?_ ?_ ?_ ?_); rfl; rfl; rfl)
              | (go_at_call 12; (with_reducible refine (hs).mono ?_); rintro e w' ⟨rfl, hb⟩; replace S4 := S4.below hb; replace S5 := S5.below hb; replace b0 := below_any b0 hb b0.size; have f5 := S4.c5; have g5 := S5.c5; have f00 := S4.c0; have g00 := S5.c0; clear hb))
            go_ret
            exact ⟨rfl, b0⟩
          | false =>
            rw [Bool.false_or]
            unfold numB
            generalize (k2 == 2 || k2 == 3) = nb at hnum ⊢
            go_enter Tryd.func24, Tryd.ntmps24
            go_wp2_with fail
            rw [← H0.out]
            go_wp2_with (first
              | ((with_reducible refine wpList_load6g (.tmp 2) w.heap.size S4 ?_ ?_ ?_ ?_); rfl; rfl; rfl)
              | ((with_reducible refine wpList_load6g (.tmp 3) (w.heap.size + 1) S5 ?_ ?_ ?_ ?_); rfl; rfl; rfl)
              | (go_at_call 12; (with_reducible refine (hs).mono ?_); rintro e w' ⟨rfl, hb⟩; replace S4 := S4.below hb; replace S5 := S5.below hb; replace b0 := below_any b0 hb b0.size; have f5 := S4.c5; have g5 := S5.c5; have f00 := S4.c0; have g00 := S5.c0; clear hb)
              | (go_at_call 15; (with_reducible refine (hnum _).mono ?_); rintro e w' ⟨rfl, hb⟩; replace S4 := S4.below hb; replace S5 := S5.below hb; replace b0 := below_any b0 hb b0.size; have f5 := S4.c5; have g5 := S5.c5; have f00 := S4.c0; have g00 := S5.c0; clear hb))
            go_ret
            exact ⟨rfl, b0⟩
end Go.Proofs.YtoifjjgakblhhaaDoor
