/- Texts of one kind, one behind the other: each says ahead of itself what it shows. -/
import Derived.Test.YtoifjjgakblhhaaGreatDoorHau
import Derived.Test.YtoifjjgakblhhaaGreatDoorHai
import Derived.Test.YtoifjjgakblhhaaGreatDoorHaw
import Derived.Test.YtoifjjgakblhhaaGreatDoorHax
import Derived.Test.YtoifjjgakblhhaaGreatDoorHay
import Derived.Test.YtoifjjgakblhhaaGreatDoorHba
import Derived.Deep.LoopGhost
/- Less, of any two values. -/
namespace Go.Proofs.YtoifjjgakblhhaaGreatDoor
open Go.RowKit

set_option maxRecDepth 4000 in
set_option maxHeartbeats 3200000 in
theorem LessC (lang : Int) (k : Int) (b : Bool) (n : Int) (t x : ByteArray) (q : List Val) (p : Option Addr) (cap : Nat) (k2 : Int) (b2 : Bool) (n2 : Int) (t2 x2 : ByteArray) (q2 : List Val) (p2 : Option Addr) (cap2 : Nat) (w : World) (hG : Gd w) (hT : Tab w) (hf : Fine n t x q.length) (hf2 : Fine n2 t2 x2 q2.length) (hl : Held w (.slice p q.length cap) q) (hl2 : Held w (.slice p2 q2.length cap2) q2) :
    Calls Tryz.prog 21 #[.int .i64 lang, .agg #[.int .i64 k, .bool b, .int .i64 n, .string t, .string x, .slice p q.length cap], .agg #[.int .i64 k2, .bool b2, .int .i64 n2, .string t2, .string x2, .slice p2 q2.length cap2]] w fun e w' => e = .returned (.int .i64 (lessTop (.mk k b n t x q) (.mk k2 b2 n2 t2 x2 q2))) ∧ Below w.heap.size w w' := by
  obtain ⟨W0, hW0⟩ : ∃ W0, W0 = (w.alloc (.cells #[.int .i64 k, .bool b, .int .i64 n, .string t, .string x, .slice p q.length cap] 28)).alloc (.cells #[.int .i64 k2, .bool b2, .int .i64 n2, .string t2, .string x2, .slice p2 q2.length cap2] 28) := ⟨_, rfl⟩
  have S4 : Six W0 w.heap.size k b n t x p q.length cap := by rw [hW0]; exact (six_new _ rfl).alloc _
  have S5 : Six W0 (w.heap.size + 1) k2 b2 n2 t2 x2 p2 q2.length cap2 := by rw [hW0]; exact six_new _ (by simp)
  have b0 : Below w.heap.size w W0 := by rw [hW0]; exact below2 _ _ _
  have f0 := S4.c0
  have g0 := S5.c0
  have H0 := Lib.hid hW0
  have hc1 := fun W (h : Below w.heap.size w W) => checkAtV (.mk k b n t x q) k b n t x q (.slice p q.length cap) W rfl (hG.below h) hf.ht hf.hx (Held.below q hl h)
  have hc2 := fun W (h : Below w.heap.size w W) => checkAtV (.mk k2 b2 n2 t2 x2 q2) k2 b2 n2 t2 x2 q2 (.slice p2 q2.length cap2) W rfl (hG.below h) hf2.ht hf2.hx (Held.below q2 hl2 h)
  have hn1 := fun W => isNumberAt k b n t x (.slice p q.length cap) W
  have hn2 := fun W => isNumberAt k2 b2 n2 t2 x2 (.slice p2 q2.length cap2) W
  have hcmp := fun W (h : Below w.heap.size w W) => cmpNumsAt k b n t x p q.length cap k2 b2 n2 t2 x2 p2 q2.length cap2 W (hG.below h) (hT.below h) hf hf2
  have ht := fun W => bothAreAt 4 k b n t x (.slice p q.length cap) k2 b2 n2 t2 x2 (.slice p2 q2.length cap2) W
  have hbb := fun W => bothAreAt 1 k b n t x (.slice p q.length cap) k2 b2 n2 t2 x2 (.slice p2 q2.length cap2) W
  clear hl hl2 hf hf2 hG hT hW0
  unfold lessTop
  cases m1 : mayP (.mk k b n t x q) 0 with
  | false =>
    rw [m1] at hc1
    rw [Bool.false_and, if_neg (by simp)]
    clear hc2 hn1 hn2 hcmp ht hbb
    go_enter Tryz.func21, Tryz.ntmps21
    go_wp2_with fail
    rw [← H0.out]
    go_wp2_with (first
      | ((with_reducible refine wpList_load6g (.tmp 4) w.heap.size S4 ?_ ?_ ?_ ?_); rfl; rfl; rfl)
      | ((with_reducible refine wpList_load6g (.tmp 5) (w.heap.size + 1) S5 ?_ ?_ ?_ ?_); rfl; rfl; rfl)
      | (go_at_call 13; (with_reducible refine (hc1 _ b0).mono ?_); rintro e w' ⟨rfl, hb⟩; replace S4 := S4.below hb; replace S5 := S5.below hb; replace b0 := below_any b0 hb b0.size; have f5 := S4.c5; have g5 := S5.c5; have f00 := S4.c0; have g00 := S5.c0; have f1 := S4.c1; have g1 := S5.c1; have f3 := S4.c3; have g3 := S5.c3; clear hb))
    go_ret
    exact ⟨rfl, b0⟩
  | true =>
    rw [m1] at hc1
    rw [Bool.true_and]
    cases m2 : mayP (.mk k2 b2 n2 t2 x2 q2) 0 with
    | false =>
      rw [m2] at hc2
      rw [if_neg (by simp)]
      clear hn1 hn2 hcmp ht hbb
      go_enter Tryz.func21, Tryz.ntmps21
      go_wp2_with fail
      rw [← H0.out]
      go_wp2_with (first
        | ((with_reducible refine wpList_load6g (.tmp 4) w.heap.size S4 ?_ ?_ ?_ ?_); rfl; rfl; rfl)
        | ((with_reducible refine wpList_load6g (.tmp 5) (w.heap.size + 1) S5 ?_ ?_ ?_ ?_); rfl; rfl; rfl)
        | (go_at_call 13; (with_reducible refine (hc1 _ b0).mono ?_); rintro e w' ⟨rfl, hb⟩; replace S4 := S4.below hb; replace S5 := S5.below hb; replace b0 := below_any b0 hb b0.size; have f5 := S4.c5; have g5 := S5.c5; have f00 := S4.c0; have g00 := S5.c0; have f1 := S4.c1; have g1 := S5.c1; have f3 := S4.c3; have g3 := S5.c3; clear hb)
        | (go_at_call 13; (with_reducible refine (hc2 _ b0).mono ?_); rintro e w' ⟨rfl, hb⟩; replace S4 := S4.below hb; replace S5 := S5.below hb; replace b0 := below_any b0 hb b0.size; have f5 := S4.c5; have g5 := S5.c5; have f00 := S4.c0; have g00 := S5.c0; have f1 := S4.c1; have g1 := S5.c1; have f3 := S4.c3; have g3 := S5.c3; clear hb))
      go_ret
      exact ⟨rfl, b0⟩
    | true =>
      rw [m2] at hc2
      rw [if_pos rfl, lessP_mk]
      clear m1 m2
      cases h1 : numB k with
      | true =>
        rw [show (k == 2 || k == 3) = numB k from rfl, h1] at hn1
        cases h2 : numB k2 with
        | true =>
          rw [show (k2 == 2 || k2 == 3) = numB k2 from rfl, h2] at hn2
          rw [if_pos ⟨rfl, rfl⟩]
          generalize cmpZ (numV k n t) (numV k2 n2 t2) = r at hcmp ⊢
          clear ht hbb
          go_enter Tryz.func21, Tryz.ntmps21
          go_wp2_with fail
          rw [← H0.out]
          go_wp2_with (first
            | ((with_reducible refine wpList_load6g (.tmp 4) w.heap.size S4 ?_ ?_ ?_ ?_); rfl; rfl; rfl)
            | ((with_reducible refine wpList_load6g (.tmp 5) (w.heap.size + 1) S5 ?_ ?_ ?_ ?_); rfl; rfl; rfl)
            | (go_at_call 13; (with_reducible refine (hc1 _ b0).mono ?_); rintro e w' ⟨rfl, hb⟩; replace S4 := S4.below hb; replace S5 := S5.below hb; replace b0 := below_any b0 hb b0.size; have f5 := S4.c5; have g5 := S5.c5; have f00 := S4.c0; have g00 := S5.c0; have f1 := S4.c1; have g1 := S5.c1; have f3 := S4.c3; have g3 := S5.c3; clear hb)
            | (go_at_call 13; (with_reducible refine (hc2 _ b0).mono ?_); rintro e w' ⟨rfl, hb⟩; replace S4 := S4.below hb; replace S5 := S5.below hb; replace b0 := below_any b0 hb b0.size; have f5 := S4.c5; have g5 := S5.c5; have f00 := S4.c0; have g00 := S5.c0; have f1 := S4.c1; have g1 := S5.c1; have f3 := S4.c3; have g3 := S5.c3; clear hb)
            | (go_at_call 50; (with_reducible refine (hn1 _).mono ?_); rintro e w' ⟨rfl, hb⟩; replace S4 := S4.below hb; replace S5 := S5.below hb; replace b0 := below_any b0 hb b0.size; have f5 := S4.c5; have g5 := S5.c5; have f00 := S4.c0; have g00 := S5.c0; have f1 := S4.c1; have g1 := S5.c1; have f3 := S4.c3; have g3 := S5.c3; clear hb)
            | (go_at_call 50; (with_reducible refine (hn2 _).mono ?_); rintro e w' ⟨rfl, hb⟩; replace S4 := S4.below hb; replace S5 := S5.below hb; replace b0 := below_any b0 hb b0.size; have f5 := S4.c5; have g5 := S5.c5; have f00 := S4.c0; have g00 := S5.c0; have f1 := S4.c1; have g1 := S5.c1; have f3 := S4.c3; have g3 := S5.c3; clear hb)
            | (go_at_call 52; (with_reducible refine (hcmp _ b0).mono ?_); rintro e w' ⟨rfl, hb⟩; replace S4 := S4.below hb; replace S5 := S5.below hb; replace b0 := below_any b0 hb b0.size; have f5 := S4.c5; have g5 := S5.c5; have f00 := S4.c0; have g00 := S5.c0; have f1 := S4.c1; have g1 := S5.c1; have f3 := S4.c3; have g3 := S5.c3; clear hb)
            | (go_at_call 51; (with_reducible refine (truthT _ _).mono ?_); rintro e w' ⟨rfl, rfl⟩))
          go_ret
          exact ⟨rfl, b0⟩
        | false =>
          rw [show (k2 == 2 || k2 == 3) = numB k2 from rfl, h2] at hn2
          rw [if_neg (by simp)]
          have k4 : ¬ k = 4 := by rintro rfl; cases h1
          have k1 : ¬ k = 1 := by rintro rfl; cases h1
          rw [if_neg (fun h => k4 h.1), if_neg (fun h => k1 h.1)]
          rw [show (k == 4) = false by simpa using k4, Bool.false_and] at ht
          rw [show (k == 1) = false by simpa using k1, Bool.false_and] at hbb
          clear hcmp
          go_enter Tryz.func21, Tryz.ntmps21
          go_wp2_with fail
          rw [← H0.out]
          go_wp2_with (first
            | ((with_reducible refine wpList_load6g (.tmp 4) w.heap.size S4 ?_ ?_ ?_ ?_); rfl; rfl; rfl)
            | ((with_reducible refine wpList_load6g (.tmp 5) (w.heap.size + 1) S5 ?_ ?_ ?_ ?_); rfl; rfl; rfl)
            | (go_at_call 13; (with_reducible refine (hc1 _ b0).mono ?_); rintro e w' ⟨rfl, hb⟩; replace S4 := S4.below hb; replace S5 := S5.below hb; replace b0 := below_any b0 hb b0.size; have f5 := S4.c5; have g5 := S5.c5; have f00 := S4.c0; have g00 := S5.c0; have f1 := S4.c1; have g1 := S5.c1; have f3 := S4.c3; have g3 := S5.c3; clear hb)
            | (go_at_call 13; (with_reducible refine (hc2 _ b0).mono ?_); rintro e w' ⟨rfl, hb⟩; replace S4 := S4.below hb; replace S5 := S5.below hb; replace b0 := below_any b0 hb b0.size; have f5 := S4.c5; have g5 := S5.c5; have f00 := S4.c0; have g00 := S5.c0; have f1 := S4.c1; have g1 := S5.c1; have f3 := S4.c3; have g3 := S5.c3; clear hb)
            | (go_at_call 50; (with_reducible refine (hn1 _).mono ?_); rintro e w' ⟨rfl, hb⟩; replace S4 := S4.below hb; replace S5 := S5.below hb; replace b0 := below_any b0 hb b0.size; have f5 := S4.c5; have g5 := S5.c5; have f00 := S4.c0; have g00 := S5.c0; have f1 := S4.c1; have g1 := S5.c1; have f3 := S4.c3; have g3 := S5.c3; clear hb)
            | (go_at_call 50; (with_reducible refine (hn2 _).mono ?_); rintro e w' ⟨rfl, hb⟩; replace S4 := S4.below hb; replace S5 := S5.below hb; replace b0 := below_any b0 hb b0.size; have f5 := S4.c5; have g5 := S5.c5; have f00 := S4.c0; have g00 := S5.c0; have f1 := S4.c1; have g1 := S5.c1; have f3 := S4.c3; have g3 := S5.c3; clear hb)
            | (go_at_call 53; (with_reducible refine (ht _).mono ?_); rintro e w' ⟨rfl, hb⟩; replace S4 := S4.below hb; replace S5 := S5.below hb; replace b0 := below_any b0 hb b0.size; have f5 := S4.c5; have g5 := S5.c5; have f00 := S4.c0; have g00 := S5.c0; have f1 := S4.c1; have g1 := S5.c1; have f3 := S4.c3; have g3 := S5.c3; clear hb)
            | (go_at_call 53; (with_reducible refine (hbb _).mono ?_); rintro e w' ⟨rfl, hb⟩; replace S4 := S4.below hb; replace S5 := S5.below hb; replace b0 := below_any b0 hb b0.size; have f5 := S4.c5; have g5 := S5.c5; have f00 := S4.c0; have g00 := S5.c0; have f1 := S4.c1; have g1 := S5.c1; have f3 := S4.c3; have g3 := S5.c3; clear hb))
          go_ret
          exact ⟨rfl, b0⟩
      | false =>
        rw [show (k == 2 || k == 3) = numB k from rfl, h1] at hn1
        rw [if_neg (by simp)]
        cases e4 : (k == 4 && k2 == 4) with
        | true =>
          rw [e4] at ht
          rw [if_pos (by simpa using e4)]
          clear hn2 hcmp hbb
          go_enter Tryz.func21, Tryz.ntmps21
          go_wp2_with fail
          rw [← H0.out]
          go_wp2_with (first
            | ((with_reducible refine wpList_load6g (.tmp 4) w.heap.size S4 ?_ ?_ ?_ ?_); rfl; rfl; rfl)
            | ((with_reducible refine wpList_load6g (.tmp 5) (w.heap.size + 1) S5 ?_ ?_ ?_ ?_); rfl; rfl; rfl)
            | (go_at_call 13; (with_reducible refine (hc1 _ b0).mono ?_); rintro e w' ⟨rfl, hb⟩; replace S4 := S4.below hb; replace S5 := S5.below hb; replace b0 := below_any b0 hb b0.size; have f5 := S4.c5; have g5 := S5.c5; have f00 := S4.c0; have g00 := S5.c0; have f1 := S4.c1; have g1 := S5.c1; have f3 := S4.c3; have g3 := S5.c3; clear hb)
            | (go_at_call 13; (with_reducible refine (hc2 _ b0).mono ?_); rintro e w' ⟨rfl, hb⟩; replace S4 := S4.below hb; replace S5 := S5.below hb; replace b0 := below_any b0 hb b0.size; have f5 := S4.c5; have g5 := S5.c5; have f00 := S4.c0; have g00 := S5.c0; have f1 := S4.c1; have g1 := S5.c1; have f3 := S4.c3; have g3 := S5.c3; clear hb)
            | (go_at_call 50; (with_reducible refine (hn1 _).mono ?_); rintro e w' ⟨rfl, hb⟩; replace S4 := S4.below hb; replace S5 := S5.below hb; replace b0 := below_any b0 hb b0.size; have f5 := S4.c5; have g5 := S5.c5; have f00 := S4.c0; have g00 := S5.c0; have f1 := S4.c1; have g1 := S5.c1; have f3 := S4.c3; have g3 := S5.c3; clear hb)
            | (go_at_call 53; (with_reducible refine (ht _).mono ?_); rintro e w' ⟨rfl, hb⟩; replace S4 := S4.below hb; replace S5 := S5.below hb; replace b0 := below_any b0 hb b0.size; have f5 := S4.c5; have g5 := S5.c5; have f00 := S4.c0; have g00 := S5.c0; have f1 := S4.c1; have g1 := S5.c1; have f3 := S4.c3; have g3 := S5.c3; clear hb)
            | (go_at_call 51; (with_reducible refine (truthT _ _).mono ?_); rintro e w' ⟨rfl, rfl⟩))
          go_ret
          exact ⟨rfl, b0⟩
        | false =>
          rw [e4] at ht
          rw [if_neg (by simpa using e4)]
          cases e1 : (k == 1 && k2 == 1) with
          | true =>
            rw [e1] at hbb
            rw [if_pos (by simpa using e1)]
            cases b with
            | true =>
              rw [Bool.not_true, Bool.false_and]
              clear hn2 hcmp
              go_enter Tryz.func21, Tryz.ntmps21
              go_wp2_with fail
              rw [← H0.out]
              go_wp2_with (first
                | ((with_reducible refine wpList_load6g (.tmp 4) w.heap.size S4 ?_ ?_ ?_ ?_); rfl; rfl; rfl)
                | ((with_reducible refine wpList_load6g (.tmp 5) (w.heap.size + 1) S5 ?_ ?_ ?_ ?_); rfl; rfl; rfl)
                | (go_at_call 13; (with_reducible refine (hc1 _ b0).mono ?_); rintro e w' ⟨rfl, hb⟩; replace S4 := S4.below hb; replace S5 := S5.below hb; replace b0 := below_any b0 hb b0.size; have f5 := S4.c5; have g5 := S5.c5; have f00 := S4.c0; have g00 := S5.c0; have f1 := S4.c1; have g1 := S5.c1; have f3 := S4.c3; have g3 := S5.c3; clear hb)
                | (go_at_call 13; (with_reducible refine (hc2 _ b0).mono ?_); rintro e w' ⟨rfl, hb⟩; replace S4 := S4.below hb; replace S5 := S5.below hb; replace b0 := below_any b0 hb b0.size; have f5 := S4.c5; have g5 := S5.c5; have f00 := S4.c0; have g00 := S5.c0; have f1 := S4.c1; have g1 := S5.c1; have f3 := S4.c3; have g3 := S5.c3; clear hb)
                | (go_at_call 50; (with_reducible refine (hn1 _).mono ?_); rintro e w' ⟨rfl, hb⟩; replace S4 := S4.below hb; replace S5 := S5.below hb; replace b0 := below_any b0 hb b0.size; have f5 := S4.c5; have g5 := S5.c5; have f00 := S4.c0; have g00 := S5.c0; have f1 := S4.c1; have g1 := S5.c1; have f3 := S4.c3; have g3 := S5.c3; clear hb)
                | (go_at_call 53; (with_reducible refine (ht _).mono ?_); rintro e w' ⟨rfl, hb⟩; replace S4 := S4.below hb; replace S5 := S5.below hb; replace b0 := below_any b0 hb b0.size; have f5 := S4.c5; have g5 := S5.c5; have f00 := S4.c0; have g00 := S5.c0; have f1 := S4.c1; have g1 := S5.c1; have f3 := S4.c3; have g3 := S5.c3; clear hb)
                | (go_at_call 53; (with_reducible refine (hbb _).mono ?_); rintro e w' ⟨rfl, hb⟩; replace S4 := S4.below hb; replace S5 := S5.below hb; replace b0 := below_any b0 hb b0.size; have f5 := S4.c5; have g5 := S5.c5; have f00 := S4.c0; have g00 := S5.c0; have f1 := S4.c1; have g1 := S5.c1; have f3 := S4.c3; have g3 := S5.c3; clear hb)
                | (go_at_call 51; (with_reducible refine (truthT _ _).mono ?_); rintro e w' ⟨rfl, rfl⟩))
              go_ret
              exact ⟨rfl, b0⟩
            | false =>
              rw [Bool.not_false, Bool.true_and]
              clear hn2 hcmp
              go_enter Tryz.func21, Tryz.ntmps21
              go_wp2_with fail
              rw [← H0.out]
              go_wp2_with (first
                | ((with_reducible refine wpList_load6g (.tmp 4) w.heap.size S4 ?_ ?_ ?_ ?_); rfl; rfl; rfl)
                | ((with_reducible refine wpList_load6g (.tmp 5) (w.heap.size + 1) S5 ?_ ?_ ?_ ?_); rfl; rfl; rfl)
                | (go_at_call 13; (with_reducible refine (hc1 _ b0).mono ?_); rintro e w' ⟨rfl, hb⟩; replace S4 := S4.below hb; replace S5 := S5.below hb; replace b0 := below_any b0 hb b0.size; have f5 := S4.c5; have g5 := S5.c5; have f00 := S4.c0; have g00 := S5.c0; have f1 := S4.c1; have g1 := S5.c1; have f3 := S4.c3; have g3 := S5.c3; clear hb)
                | (go_at_call 13; (with_reducible refine (hc2 _ b0).mono ?_); rintro e w' ⟨rfl, hb⟩; replace S4 := S4.below hb; replace S5 := S5.below hb; replace b0 := below_any b0 hb b0.size; have f5 := S4.c5; have g5 := S5.c5; have f00 := S4.c0; have g00 := S5.c0; have f1 := S4.c1; have g1 := S5.c1; have f3 := S4.c3; have g3 := S5.c3; clear hb)
                | (go_at_call 50; (with_reducible refine (hn1 _).mono ?_); rintro e w' ⟨rfl, hb⟩; replace S4 := S4.below hb; replace S5 := S5.below hb; replace b0 := below_any b0 hb b0.size; have f5 := S4.c5; have g5 := S5.c5; have f00 := S4.c0; have g00 := S5.c0; have f1 := S4.c1; have g1 := S5.c1; have f3 := S4.c3; have g3 := S5.c3; clear hb)
                | (go_at_call 53; (with_reducible refine (ht _).mono ?_); rintro e w' ⟨rfl, hb⟩; replace S4 := S4.below hb; replace S5 := S5.below hb; replace b0 := below_any b0 hb b0.size; have f5 := S4.c5; have g5 := S5.c5; have f00 := S4.c0; have g00 := S5.c0; have f1 := S4.c1; have g1 := S5.c1; have f3 := S4.c3; have g3 := S5.c3; clear hb)
                | (go_at_call 53; (with_reducible refine (hbb _).mono ?_); rintro e w' ⟨rfl, hb⟩; replace S4 := S4.below hb; replace S5 := S5.below hb; replace b0 := below_any b0 hb b0.size; have f5 := S4.c5; have g5 := S5.c5; have f00 := S4.c0; have g00 := S5.c0; have f1 := S4.c1; have g1 := S5.c1; have f3 := S4.c3; have g3 := S5.c3; clear hb)
                | (go_at_call 51; (with_reducible refine (truthT _ _).mono ?_); rintro e w' ⟨rfl, rfl⟩))
              go_ret
              exact ⟨rfl, b0⟩
          | false =>
            rw [e1] at hbb
            rw [if_neg (by simpa using e1)]
            clear hn2 hcmp
            go_enter Tryz.func21, Tryz.ntmps21
            go_wp2_with fail
            rw [← H0.out]
            go_wp2_with (first
              | ((with_reducible refine wpList_load6g (.tmp 4) w.heap.size S4 ?_ ?_ ?_ ?_); rfl; rfl; rfl)
              | ((with_reducible refine wpList_load6g (.tmp 5) (w.heap.size + 1) S5 ?_ ?_ ?_ ?_); rfl; rfl; rfl)
              | (go_at_call 13; (with_reducible refine (hc1 _ b0).mono ?_); rintro e w' ⟨rfl, hb⟩; replace S4 := S4.below hb; replace S5 := S5.below hb; replace b0 := below_any b0 hb b0.size; have f5 := S4.c5; have g5 := S5.c5; have f00 := S4.c0; have g00 := S5.c0; have f1 := S4.c1; have g1 := S5.c1; have f3 := S4.c3; have g3 := S5.c3; clear hb)
              | (go_at_call 13; (with_reducible refine (hc2 _ b0).mono ?_); rintro e w' ⟨rfl, hb⟩; replace S4 := S4.below hb; replace S5 := S5.below hb; replace b0 := below_any b0 hb b0.size; have f5 := S4.c5; have g5 := S5.c5; have f00 := S4.c0; have g00 := S5.c0; have f1 := S4.c1; have g1 := S5.c1; have f3 := S4.c3; have g3 := S5.c3; clear hb)
              | (go_at_call 50; (with_reducible refine (hn1 _).mono ?_); rintro e w' ⟨rfl, hb⟩; replace S4 := S4.below hb; replace S5 := S5.below hb; replace b0 := below_any b0 hb b0.size; have f5 := S4.c5; have g5 := S5.c5; have f00 := S4.c0; have g00 := S5.c0; have f1 := S4.c1; have g1 := S5.c1; have f3 := S4.c3; have g3 := S5.c3; clear hb)
              | (go_at_call 53; (with_reducible refine (ht _).mono ?_); rintro e w' ⟨rfl, hb⟩; replace S4 := S4.below hb; replace S5 := S5.below hb; replace b0 := below_any b0 hb b0.size; have f5 := S4.c5; have g5 := S5.c5; have f00 := S4.c0; have g00 := S5.c0; have f1 := S4.c1; have g1 := S5.c1; have f3 := S4.c3; have g3 := S5.c3; clear hb)
              | (go_at_call 53; (with_reducible refine (hbb _).mono ?_); rintro e w' ⟨rfl, hb⟩; replace S4 := S4.below hb; replace S5 := S5.below hb; replace b0 := below_any b0 hb b0.size; have f5 := S4.c5; have g5 := S5.c5; have f00 := S4.c0; have g00 := S5.c0; have f1 := S4.c1; have g1 := S5.c1; have f3 := S4.c3; have g3 := S5.c3; clear hb))
            go_ret
            exact ⟨rfl, b0⟩
end Go.Proofs.YtoifjjgakblhhaaGreatDoor

/- What the round of the law ValueExact keeps; what is asked of two values, by both. -/
namespace Go.Proofs.YtoifjjgakblhhaaGreatDoor
open Go.RowKit

/-- What a round keeps of the first value and of its copy. -/
structure KA (SA : World → Prop) (w : World) (L ln : Value) (g off1 : Nat) (v : Val) (k : Int) (b : Bool) (m : Int) (t x : ByteArray) (q : List Val) (p : Option Addr) (cp : Nat) (ea : Nat) (pa : Option Addr) (ca : Nat) : Prop where
  sv : ∀ W, SA W → LInv w L ln W
  s4 : ∀ W, SA W → Six W ea k b m t x pa q.length ca
  ha : ∀ W, SA W → Held W (.slice pa q.length ca) q
  o1 : ∀ W, SA W → Opens W g off1 v k b m t x q p cp
  st : ∀ W W2, SA W → Below W.heap.size W W2 → SA W2
  dr : ∀ W, SA W → SA W.drew
theorem mkA {A0 w : World} {L ln : Value} {g off1 : Nat} {v : Val} {k : Int} {b : Bool} {m : Int} {t x : ByteArray} {q : List Val} {p : Option Addr} {cp : Nat} {ea : Nat} {pa : Option Addr} {ca : Nat} (I : LInv w L ln A0) (S4 : Six A0 ea k b m t x pa q.length ca) (ha : Held A0 (.slice pa q.length ca) q) (o1 : Opens A0 g off1 v k b m t x q p cp) :
    KA (fun W => Below A0.heap.size A0 W) w L ln g off1 v k b m t x q p cp ea pa ca :=
  ⟨fun W h => I.step h, fun W h => S4.below h, fun W h => Held.below q ha h, fun W h => o1.below h, fun W W2 h k => below_any h k h.size, fun W h => h.drew⟩
/-- And of the second one, and of its copy. -/
structure KB (SB : World → Prop) (w : World) (L ln : Value) (g off1 : Nat) (v : Val) (k : Int) (b : Bool) (m : Int) (t x : ByteArray) (q : List Val) (p : Option Addr) (cp : Nat) (ea : Nat) (pa : Option Addr) (ca : Nat) (off2 : Nat) (u : Val) (k2 : Int) (b2 : Bool) (m2 : Int) (t2 x2 : ByteArray) (q2 : List Val) (p2 : Option Addr) (cp2 : Nat) (eb : Nat) (pb : Option Addr) (cb : Nat) : Prop where
  sv : ∀ W, SB W → LInv w L ln W
  s4 : ∀ W, SB W → Six W ea k b m t x pa q.length ca
  ha : ∀ W, SB W → Held W (.slice pa q.length ca) q
  o1 : ∀ W, SB W → Opens W g off1 v k b m t x q p cp
  s6 : ∀ W, SB W → Six W eb k2 b2 m2 t2 x2 pb q2.length cb
  hb : ∀ W, SB W → Held W (.slice pb q2.length cb) q2
  o2 : ∀ W, SB W → Opens W g off2 u k2 b2 m2 t2 x2 q2 p2 cp2
  st : ∀ W W2, SB W → Below W.heap.size W W2 → SB W2
theorem mkB {SA : World → Prop} {B0 w : World} {L ln : Value} {g off1 : Nat} {v : Val} {k : Int} {b : Bool} {m : Int} {t x : ByteArray} {q : List Val} {p : Option Addr} {cp : Nat} {ea : Nat} {pa : Option Addr} {ca : Nat} {off2 : Nat} {u : Val} {k2 : Int} {b2 : Bool} {m2 : Int} {t2 x2 : ByteArray} {q2 : List Val} {p2 : Option Addr} {cp2 : Nat} {eb : Nat} {pb : Option Addr} {cb : Nat} (HA : KA SA w L ln g off1 v k b m t x q p cp ea pa ca) (JB : SA B0) (S6 : Six B0 eb k2 b2 m2 t2 x2 pb q2.length cb) (hb : Held B0 (.slice pb q2.length cb) q2) (o2 : Opens B0 g off2 u k2 b2 m2 t2 x2 q2 p2 cp2) :
    KB (fun W => Below B0.heap.size B0 W) w L ln g off1 v k b m t x q p cp ea pa ca off2 u k2 b2 m2 t2 x2 q2 p2 cp2 eb pb cb :=
  ⟨fun W h => HA.sv W (HA.st _ _ JB h), fun W h => HA.s4 W (HA.st _ _ JB h), fun W h => HA.ha W (HA.st _ _ JB h), fun W h => HA.o1 W (HA.st _ _ JB h), fun W h => S6.below h, fun W h => Held.below q2 hb h, fun W h => o2.below h, fun W W2 h k => below_any h k h.size⟩
/-- What both tell of two values. -/
structure Two (SB : World → Prop) (lang : Int) (k : Int) (b : Bool) (m : Int) (t x : ByteArray) (q : List Val) (p : Option Addr) (cp : Nat) (pa : Option Addr) (ca : Nat) (k2 : Int) (b2 : Bool) (m2 : Int) (t2 x2 : ByteArray) (q2 : List Val) (p2 : Option Addr) (cp2 : Nat) (pb : Option Addr) (cb : Nat) (r1 : Bool) (r2 r3 r4 : Int) : Prop where
  sa : ∀ W, SB W → Calls Tryz.prog 17 #[.agg #[.int .i64 k, .bool b, .int .i64 m, .string t, .string x, .slice pa q.length ca], .agg #[.int .i64 k2, .bool b2, .int .i64 m2, .string t2, .string x2, .slice pb q2.length cb]] W fun e w' => e = .returned (.bool r1) ∧ Below W.heap.size W w'
  sz : ∀ W, SB W → Calls Tryz.prog 18 #[.agg #[.int .i64 k, .bool b, .int .i64 m, .string t, .string x, .slice p q.length cp], .agg #[.int .i64 k2, .bool b2, .int .i64 m2, .string t2, .string x2, .slice p2 q2.length cp2]] W fun e w' => e = .returned (.bool r1) ∧ Below W.heap.size W w'
  ea : ∀ W, SB W → Calls Tryz.prog 19 #[.int .i64 lang, .agg #[.int .i64 k, .bool b, .int .i64 m, .string t, .string x, .slice pa q.length ca], .agg #[.int .i64 k2, .bool b2, .int .i64 m2, .string t2, .string x2, .slice pb q2.length cb]] W fun e w' => e = .returned (.int .i64 r2) ∧ Below W.heap.size W w'
  er : ∀ W, SB W → Calls Tryz.prog 20 #[.int .i64 lang, .agg #[.int .i64 k, .bool b, .int .i64 m, .string t, .string x, .slice p q.length cp], .agg #[.int .i64 k2, .bool b2, .int .i64 m2, .string t2, .string x2, .slice p2 q2.length cp2]] W fun e w' => e = .returned (.int .i64 r2) ∧ Below W.heap.size W w'
  la : ∀ W, SB W → Calls Tryz.prog 21 #[.int .i64 lang, .agg #[.int .i64 k, .bool b, .int .i64 m, .string t, .string x, .slice pa q.length ca], .agg #[.int .i64 k2, .bool b2, .int .i64 m2, .string t2, .string x2, .slice pb q2.length cb]] W fun e w' => e = .returned (.int .i64 r3) ∧ Below W.heap.size W w'
  lr : ∀ W, SB W → Calls Tryz.prog 22 #[.agg #[.int .i64 k, .bool b, .int .i64 m, .string t, .string x, .slice p q.length cp], .agg #[.int .i64 k2, .bool b2, .int .i64 m2, .string t2, .string x2, .slice p2 q2.length cp2]] W fun e w' => e = .returned (.int .i64 r3) ∧ Below W.heap.size W w'
  oa : ∀ W, SB W → Calls Tryz.prog 23 #[.int .i64 lang, .agg #[.int .i64 k, .bool b, .int .i64 m, .string t, .string x, .slice pa q.length ca], .agg #[.int .i64 k2, .bool b2, .int .i64 m2, .string t2, .string x2, .slice pb q2.length cb]] W fun e w' => e = .returned (.int .i64 r4) ∧ Below W.heap.size W w'
  orr : ∀ W, SB W → Calls Tryz.prog 24 #[.int .i64 lang, .agg #[.int .i64 k, .bool b, .int .i64 m, .string t, .string x, .slice p q.length cp], .agg #[.int .i64 k2, .bool b2, .int .i64 m2, .string t2, .string x2, .slice p2 q2.length cp2]] W fun e w' => e = .returned (.int .i64 r4) ∧ Below W.heap.size W w'
theorem twoOf {SB : World → Prop} {w : World} {lang : Int} {L ln : Value} {g off1 : Nat} {v : Val} {k : Int} {b : Bool} {m : Int} {t x : ByteArray} {q : List Val} {p : Option Addr} {cp : Nat} {ea : Nat} {pa : Option Addr} {ca : Nat} {off2 : Nat} {u : Val} {k2 : Int} {b2 : Bool} {m2 : Int} {t2 x2 : ByteArray} {q2 : List Val} {p2 : Option Addr} {cp2 : Nat} {eb : Nat} {pb : Option Addr} {cb : Nat} (hG : Gd w) (hT : Tab w)
    (H : KB SB w L ln g off1 v k b m t x q p cp ea pa ca off2 u k2 b2 m2 t2 x2 q2 p2 cp2 eb pb cb) (B0 : World) (JB : SB B0) : ∃ r1 r2 r3 r4, Two SB lang k b m t x q p cp pa ca k2 b2 m2 t2 x2 q2 p2 cp2 pb cb r1 r2 r3 r4 := by
  have o1 := (H.o1 _ JB).hf
  have o2 := (H.o2 _ JB).hf
  refine ⟨sameP (.mk k b m t x q) (.mk k2 b2 m2 t2 x2 q2), equalTop lang (.mk k b m t x q) (.mk k2 b2 m2 t2 x2 q2), lessTop (.mk k b m t x q) (.mk k2 b2 m2 t2 x2 q2), orderI lang (.mk k b m t x q) (.mk k2 b2 m2 t2 x2 q2), ?_, ?_, ?_, ?_, ?_, ?_, ?_, ?_⟩
  · exact fun W h => sameAll (.mk k b m t x q) W k b m t x q pa ca (.mk k2 b2 m2 t2 x2 q2) k2 b2 m2 t2 x2 q2 pb cb rfl rfl o1.hn (H.ha W h) (H.hb W h)
  · exact fun W h => sameZAll (.mk k b m t x q) W k b m t x q p cp (.mk k2 b2 m2 t2 x2 q2) k2 b2 m2 t2 x2 q2 p2 cp2 rfl rfl o1.hn (H.o1 W h).hl (H.o2 W h).hl
  · exact fun W h => EqualC lang k b m t x q pa ca k2 b2 m2 t2 x2 q2 pb cb W (hG.below (H.sv W h).bel) (hT.below (H.sv W h).bel) o1 o2 (H.ha W h) (H.hb W h)
  · exact fun W h => eqRefAll (.mk k b m t x q) lang W k b m t x q p cp (.mk k2 b2 m2 t2 x2 q2) k2 b2 m2 t2 x2 q2 p2 cp2 rfl rfl o1 o2 (H.o1 W h).hl (H.o2 W h).hl
  · exact fun W h => LessC lang k b m t x q pa ca k2 b2 m2 t2 x2 q2 pb cb W (hG.below (H.sv W h).bel) (hT.below (H.sv W h).bel) o1 o2 (H.ha W h) (H.hb W h)
  · exact fun W h => refLess k b m t x q p cp k2 b2 m2 t2 x2 q2 p2 cp2 W o1 o2 (H.o1 W h).hl (H.o2 W h).hl
  · exact fun W h => ordAll (.mk k b m t x q) lang W k b m t x q pa ca (.mk k2 b2 m2 t2 x2 q2) k2 b2 m2 t2 x2 q2 pb cb rfl rfl (hG.below (H.sv W h).bel) (hT.below (H.sv W h).bel) o1 o2 (H.ha W h) (H.hb W h)
  · exact fun W h => ordRefAll (.mk k b m t x q) lang W k b m t x q p cp (.mk k2 b2 m2 t2 x2 q2) k2 b2 m2 t2 x2 q2 p2 cp2 rfl rfl o1 o2 (H.o1 W h).hl (H.o2 W h).hl
end Go.Proofs.YtoifjjgakblhhaaGreatDoor
