/- Texts of one kind, one behind the other: each says ahead of itself what it shows. -/
import Derived.Test.YtoifjjgakblhhaaGreatDoorHbc
import Derived.Test.YtoifjjgakblhhaaGreatDoorHay
/- What Arith tells, by the document: two texts, two lists that are too long together. -/
namespace Go.Proofs.YtoifjjgakblhhaaGreatDoor
open Go.RowKit

set_option maxRecDepth 20000 in
set_option maxHeartbeats 12800000 in
theorem rfTextsNo (lang : Int) (b : Bool) (n : Int) (t x : ByteArray) (q : List Val) (p : Option Addr) (cap : Nat) (b2 : Bool) (n2 : Int) (t2 x2 : ByteArray) (q2 : List Val) (p2 : Option Addr) (cap2 : Nat) (w : World) (m1 m2 : Bool) (hc1 : ∀ W, Below w.heap.size w W → Calls Tryz.prog 14 #[.agg #[.int .i64 4, .bool b, .int .i64 n, .string t, .string x, .slice p q.length cap]] W fun e w' => e = .returned (.bool m1) ∧ Below W.heap.size W w') (hc2 : ∀ W, Below w.heap.size w W → Calls Tryz.prog 14 #[.agg #[.int .i64 4, .bool b2, .int .i64 n2, .string t2, .string x2, .slice p2 q2.length cap2]] W fun e w' => e = .returned (.bool m2) ∧ Below W.heap.size W w') (e1 : m1 = true) (e2 : m2 = true) (el : (lang != 1) = true) (hf1 : t.size ≤ 2097152) (hf2 : t2.size ≤ 2097152) (h : 1048576 < t.size + t2.size) :
    Calls Tryz.prog 26 #[.int .i64 lang, .int .i64 17, .agg #[.int .i64 4, .bool b, .int .i64 n, .string t, .string x, .slice p q.length cap], .agg #[.int .i64 4, .bool b2, .int .i64 n2, .string t2, .string x2, .slice p2 q2.length cap2]] w (APost w 0 0 ⟨#[]⟩ [] 2) := by
  obtain ⟨W0, hW0⟩ : ∃ W0, W0 = ((w.alloc (.cells #[.int .i64 4, .bool b, .int .i64 n, .string t, .string x, .slice p q.length cap] 28)).alloc (.cells #[.int .i64 4, .bool b2, .int .i64 n2, .string t2, .string x2, .slice p2 q2.length cap2] 28)).alloc (.cells #[.int .i64 0, .bool false, .int .i64 0, .string ⟨#[]⟩, .string ⟨#[]⟩, .slice none 0 0] 28) := ⟨_, rfl⟩
  have S4 : Six W0 w.heap.size 4 b n t x p q.length cap := by rw [hW0]; exact ((six_new _ rfl).alloc _).alloc _
  have S5 : Six W0 (w.heap.size + 1) 4 b2 n2 t2 x2 p2 q2.length cap2 := by rw [hW0]; exact (six_new _ (by simp)).alloc _
  have S8 : Six W0 (w.heap.size + 2) 0 false 0 ⟨#[]⟩ ⟨#[]⟩ none 0 0 := by rw [hW0]; exact six_new _ (by simp)
  have b0 : Below w.heap.size w W0 := by rw [hW0]; exact below3 _ _ _ _
  have f0 := S4.c0
  have g0 := S5.c0
  have f2 := S4.c2
  have g2 := S5.c2
  have f3 := S4.c3
  have g3 := S5.c3
  have f5 := S4.c5
  have g5 := S5.c5
  have H0 := Lib.hid hW0
  clear hW0
  subst e1 e2
  have hi : (1048576 : Int) - t2.size < t.size := by omega
  clear h
  go_enter Tryz.func26, Tryz.ntmps26
  go_wp2_with (first
    | ((try rw [← H0.out]); (with_reducible refine wpList_load6 (.tmp 6) w.heap.size S4 ?_ ?_ ?_ ?_); rfl; rfl; rfl)
    | ((try rw [← H0.out]); (with_reducible refine wpList_load6g (.tmp 6) w.heap.size S4 ?_ ?_ ?_ ?_); rfl; rfl; rfl)
    | ((try rw [← H0.out]); (with_reducible refine wpList_load6 (.tmp 7) (w.heap.size + 1) S5 ?_ ?_ ?_ ?_); rfl; rfl; rfl)
    | ((try rw [← H0.out]); (with_reducible refine wpList_load6g (.tmp 7) (w.heap.size + 1) S5 ?_ ?_ ?_ ?_); rfl; rfl; rfl)
    | (go_at_call 14; (try rw [← H0.out]); (with_reducible refine (hc1 _ b0).mono ?_); rintro e w' ⟨rfl, hb⟩; replace S4 := S4.below hb; replace S5 := S5.below hb; replace S8 := S8.below hb; replace b0 := below_any b0 hb b0.size; have f0 := S4.c0; have g0 := S5.c0; have f2 := S4.c2; have g2 := S5.c2; have f3 := S4.c3; have g3 := S5.c3; have f5 := S4.c5; have g5 := S5.c5; clear hb)
    | (go_at_call 14; (try rw [← H0.out]); (with_reducible refine (hc2 _ b0).mono ?_); rintro e w' ⟨rfl, hb⟩; replace S4 := S4.below hb; replace S5 := S5.below hb; replace S8 := S8.below hb; replace b0 := below_any b0 hb b0.size; have f0 := S4.c0; have g0 := S5.c0; have f2 := S4.c2; have g2 := S5.c2; have f3 := S4.c3; have g3 := S5.c3; have f5 := S4.c5; have g5 := S5.c5; clear hb)
    | (go_at_call 45; (try rw [← H0.out]); (with_reducible refine (hn1 _).mono ?_); rintro e w' ⟨rfl, hb⟩; replace S4 := S4.below hb; replace S5 := S5.below hb; replace S8 := S8.below hb; replace b0 := below_any b0 hb b0.size; have f0 := S4.c0; have g0 := S5.c0; have f2 := S4.c2; have g2 := S5.c2; have f3 := S4.c3; have g3 := S5.c3; have f5 := S4.c5; have g5 := S5.c5; clear hb)
    | (go_at_call 45; (try rw [← H0.out]); (with_reducible refine (hn2 _).mono ?_); rintro e w' ⟨rfl, hb⟩; replace S4 := S4.below hb; replace S5 := S5.below hb; replace S8 := S8.below hb; replace b0 := below_any b0 hb b0.size; have f0 := S4.c0; have g0 := S5.c0; have f2 := S4.c2; have g2 := S5.c2; have f3 := S4.c3; have g3 := S5.c3; have f5 := S4.c5; have g5 := S5.c5; clear hb)
    | ((try rw [← H0.out]); (with_reducible refine wpList_store6 (k' := 0) (b' := false) (n' := 0) (t' := ⟨#[]⟩) (x' := ⟨#[]⟩) (p' := none) (len' := 0) (cap' := 0) (.tmp 8) (.tmp 75) (w.heap.size + 2) S8 ?_ ?_ ?_ ?_ ?_); rfl; rfl; rfl; rfl; intro w9 on9 S9))
  exact bodyPost_ret (results_six_tmp (p := 8) (q := 9) Tryz.results26 _ (.int .i64 2) rfl rfl S9) rfl ⟨none, 0, rfl, by unfold HeldT; exact ⟨none, 0, rfl⟩, below_only b0 on9 (by omega) b0.size⟩

set_option maxRecDepth 20000 in
set_option maxHeartbeats 12800000 in
theorem rfTextsYes (lang : Int) (b : Bool) (n : Int) (t x : ByteArray) (q : List Val) (p : Option Addr) (cap : Nat) (b2 : Bool) (n2 : Int) (t2 x2 : ByteArray) (q2 : List Val) (p2 : Option Addr) (cap2 : Nat) (w : World) (m1 m2 : Bool) (hc1 : ∀ W, Below w.heap.size w W → Calls Tryz.prog 14 #[.agg #[.int .i64 4, .bool b, .int .i64 n, .string t, .string x, .slice p q.length cap]] W fun e w' => e = .returned (.bool m1) ∧ Below W.heap.size W w') (hc2 : ∀ W, Below w.heap.size w W → Calls Tryz.prog 14 #[.agg #[.int .i64 4, .bool b2, .int .i64 n2, .string t2, .string x2, .slice p2 q2.length cap2]] W fun e w' => e = .returned (.bool m2) ∧ Below W.heap.size W w') (e1 : m1 = true) (e2 : m2 = true) (el : (lang != 1) = true) (hf1 : t.size ≤ 2097152) (hf2 : t2.size ≤ 2097152) (h : t.size + t2.size ≤ 1048576) :
    Calls Tryz.prog 26 #[.int .i64 lang, .int .i64 17, .agg #[.int .i64 4, .bool b, .int .i64 n, .string t, .string x, .slice p q.length cap], .agg #[.int .i64 4, .bool b2, .int .i64 n2, .string t2, .string x2, .slice p2 q2.length cap2]] w (APost w 4 0 (t ++ t2) [] 0) := by
  obtain ⟨W0, hW0⟩ : ∃ W0, W0 = ((w.alloc (.cells #[.int .i64 4, .bool b, .int .i64 n, .string t, .string x, .slice p q.length cap] 28)).alloc (.cells #[.int .i64 4, .bool b2, .int .i64 n2, .string t2, .string x2, .slice p2 q2.length cap2] 28)).alloc (.cells #[.int .i64 0, .bool false, .int .i64 0, .string ⟨#[]⟩, .string ⟨#[]⟩, .slice none 0 0] 28) := ⟨_, rfl⟩
  have S4 : Six W0 w.heap.size 4 b n t x p q.length cap := by rw [hW0]; exact ((six_new _ rfl).alloc _).alloc _
  have S5 : Six W0 (w.heap.size + 1) 4 b2 n2 t2 x2 p2 q2.length cap2 := by rw [hW0]; exact (six_new _ (by simp)).alloc _
  have S8 : Six W0 (w.heap.size + 2) 0 false 0 ⟨#[]⟩ ⟨#[]⟩ none 0 0 := by rw [hW0]; exact six_new _ (by simp)
  have b0 : Below w.heap.size w W0 := by rw [hW0]; exact below3 _ _ _ _
  have f0 := S4.c0
  have g0 := S5.c0
  have f2 := S4.c2
  have g2 := S5.c2
  have f3 := S4.c3
  have g3 := S5.c3
  have f5 := S4.c5
  have g5 := S5.c5
  have H0 := Lib.hid hW0
  clear hW0
  subst e1 e2
  have hi : ¬ (1048576 : Int) - t2.size < t.size := by omega
  clear h
  go_enter Tryz.func26, Tryz.ntmps26
  go_wp2_with (first
    | ((try rw [← H0.out]); (with_reducible refine wpList_load6 (.tmp 6) w.heap.size S4 ?_ ?_ ?_ ?_); rfl; rfl; rfl)
    | ((try rw [← H0.out]); (with_reducible refine wpList_load6g (.tmp 6) w.heap.size S4 ?_ ?_ ?_ ?_); rfl; rfl; rfl)
    | ((try rw [← H0.out]); (with_reducible refine wpList_load6 (.tmp 7) (w.heap.size + 1) S5 ?_ ?_ ?_ ?_); rfl; rfl; rfl)
    | ((try rw [← H0.out]); (with_reducible refine wpList_load6g (.tmp 7) (w.heap.size + 1) S5 ?_ ?_ ?_ ?_); rfl; rfl; rfl)
    | (go_at_call 14; (try rw [← H0.out]); (with_reducible refine (hc1 _ b0).mono ?_); rintro e w' ⟨rfl, hb⟩; replace S4 := S4.below hb; replace S5 := S5.below hb; replace S8 := S8.below hb; replace b0 := below_any b0 hb b0.size; have f0 := S4.c0; have g0 := S5.c0; have f2 := S4.c2; have g2 := S5.c2; have f3 := S4.c3; have g3 := S5.c3; have f5 := S4.c5; have g5 := S5.c5; clear hb)
    | (go_at_call 14; (try rw [← H0.out]); (with_reducible refine (hc2 _ b0).mono ?_); rintro e w' ⟨rfl, hb⟩; replace S4 := S4.below hb; replace S5 := S5.below hb; replace S8 := S8.below hb; replace b0 := below_any b0 hb b0.size; have f0 := S4.c0; have g0 := S5.c0; have f2 := S4.c2; have g2 := S5.c2; have f3 := S4.c3; have g3 := S5.c3; have f5 := S4.c5; have g5 := S5.c5; clear hb)
    | (go_at_call 45; (try rw [← H0.out]); (with_reducible refine (hn1 _).mono ?_); rintro e w' ⟨rfl, hb⟩; replace S4 := S4.below hb; replace S5 := S5.below hb; replace S8 := S8.below hb; replace b0 := below_any b0 hb b0.size; have f0 := S4.c0; have g0 := S5.c0; have f2 := S4.c2; have g2 := S5.c2; have f3 := S4.c3; have g3 := S5.c3; have f5 := S4.c5; have g5 := S5.c5; clear hb)
    | (go_at_call 45; (try rw [← H0.out]); (with_reducible refine (hn2 _).mono ?_); rintro e w' ⟨rfl, hb⟩; replace S4 := S4.below hb; replace S5 := S5.below hb; replace S8 := S8.below hb; replace b0 := below_any b0 hb b0.size; have f0 := S4.c0; have g0 := S5.c0; have f2 := S4.c2; have g2 := S5.c2; have f3 := S4.c3; have g3 := S5.c3; have f5 := S4.c5; have g5 := S5.c5; clear hb)
    | ((try rw [← H0.out]); (with_reducible refine wpList_store6 (k' := 4) (b' := false) (n' := 0) (t' := (t ++ t2)) (x' := ⟨#[]⟩) (p' := none) (len' := 0) (cap' := 0) (.tmp 8) (.tmp 81) (w.heap.size + 2) S8 ?_ ?_ ?_ ?_ ?_); rfl; rfl; rfl; rfl; intro w9 on9 S9))
  exact bodyPost_ret (results_six_tmp (p := 8) (q := 9) Tryz.results26 _ (.int .i64 0) rfl rfl S9) rfl ⟨none, 0, rfl, by unfold HeldT; exact ⟨none, 0, rfl⟩, below_only b0 on9 (by omega) b0.size⟩

set_option maxRecDepth 20000 in
set_option maxHeartbeats 12800000 in
theorem rfListsNo (lang : Int) (b : Bool) (n : Int) (t x : ByteArray) (q : List Val) (p : Option Addr) (cap : Nat) (b2 : Bool) (n2 : Int) (t2 x2 : ByteArray) (q2 : List Val) (p2 : Option Addr) (cap2 : Nat) (w : World) (m1 m2 : Bool) (hc1 : ∀ W, Below w.heap.size w W → Calls Tryz.prog 14 #[.agg #[.int .i64 5, .bool b, .int .i64 n, .string t, .string x, .slice p q.length cap]] W fun e w' => e = .returned (.bool m1) ∧ Below W.heap.size W w') (hc2 : ∀ W, Below w.heap.size w W → Calls Tryz.prog 14 #[.agg #[.int .i64 5, .bool b2, .int .i64 n2, .string t2, .string x2, .slice p2 q2.length cap2]] W fun e w' => e = .returned (.bool m2) ∧ Below W.heap.size W w') (e1 : m1 = true) (e2 : m2 = true) (el : (lang != 1) = true) (hf1 : q.length ≤ 2097152) (hf2 : q2.length ≤ 2097152) (h : 4096 < q.length + q2.length) :
    Calls Tryz.prog 26 #[.int .i64 lang, .int .i64 17, .agg #[.int .i64 5, .bool b, .int .i64 n, .string t, .string x, .slice p q.length cap], .agg #[.int .i64 5, .bool b2, .int .i64 n2, .string t2, .string x2, .slice p2 q2.length cap2]] w (APost w 0 0 ⟨#[]⟩ [] 2) := by
  obtain ⟨W0, hW0⟩ : ∃ W0, W0 = ((w.alloc (.cells #[.int .i64 5, .bool b, .int .i64 n, .string t, .string x, .slice p q.length cap] 28)).alloc (.cells #[.int .i64 5, .bool b2, .int .i64 n2, .string t2, .string x2, .slice p2 q2.length cap2] 28)).alloc (.cells #[.int .i64 0, .bool false, .int .i64 0, .string ⟨#[]⟩, .string ⟨#[]⟩, .slice none 0 0] 28) := ⟨_, rfl⟩
  have S4 : Six W0 w.heap.size 5 b n t x p q.length cap := by rw [hW0]; exact ((six_new _ rfl).alloc _).alloc _
  have S5 : Six W0 (w.heap.size + 1) 5 b2 n2 t2 x2 p2 q2.length cap2 := by rw [hW0]; exact (six_new _ (by simp)).alloc _
  have S8 : Six W0 (w.heap.size + 2) 0 false 0 ⟨#[]⟩ ⟨#[]⟩ none 0 0 := by rw [hW0]; exact six_new _ (by simp)
  have b0 : Below w.heap.size w W0 := by rw [hW0]; exact below3 _ _ _ _
  have f0 := S4.c0
  have g0 := S5.c0
  have f2 := S4.c2
  have g2 := S5.c2
  have f3 := S4.c3
  have g3 := S5.c3
  have f5 := S4.c5
  have g5 := S5.c5
  have H0 := Lib.hid hW0
  clear hW0
  subst e1 e2
  have hi : (4096 : Int) < q.length + q2.length := by omega
  clear h
  go_enter Tryz.func26, Tryz.ntmps26
  go_wp2_with (first
    | ((try rw [← H0.out]); (with_reducible refine wpList_load6 (.tmp 6) w.heap.size S4 ?_ ?_ ?_ ?_); rfl; rfl; rfl)
    | ((try rw [← H0.out]); (with_reducible refine wpList_load6g (.tmp 6) w.heap.size S4 ?_ ?_ ?_ ?_); rfl; rfl; rfl)
    | ((try rw [← H0.out]); (with_reducible refine wpList_load6 (.tmp 7) (w.heap.size + 1) S5 ?_ ?_ ?_ ?_); rfl; rfl; rfl)
    | ((try rw [← H0.out]); (with_reducible refine wpList_load6g (.tmp 7) (w.heap.size + 1) S5 ?_ ?_ ?_ ?_); rfl; rfl; rfl)
    | (go_at_call 14; (try rw [← H0.out]); (with_reducible refine (hc1 _ b0).mono ?_); rintro e w' ⟨rfl, hb⟩; replace S4 := S4.below hb; replace S5 := S5.below hb; replace S8 := S8.below hb; replace b0 := below_any b0 hb b0.size; have f0 := S4.c0; have g0 := S5.c0; have f2 := S4.c2; have g2 := S5.c2; have f3 := S4.c3; have g3 := S5.c3; have f5 := S4.c5; have g5 := S5.c5; clear hb)
    | (go_at_call 14; (try rw [← H0.out]); (with_reducible refine (hc2 _ b0).mono ?_); rintro e w' ⟨rfl, hb⟩; replace S4 := S4.below hb; replace S5 := S5.below hb; replace S8 := S8.below hb; replace b0 := below_any b0 hb b0.size; have f0 := S4.c0; have g0 := S5.c0; have f2 := S4.c2; have g2 := S5.c2; have f3 := S4.c3; have g3 := S5.c3; have f5 := S4.c5; have g5 := S5.c5; clear hb)
    | (go_at_call 45; (try rw [← H0.out]); (with_reducible refine (hn1 _).mono ?_); rintro e w' ⟨rfl, hb⟩; replace S4 := S4.below hb; replace S5 := S5.below hb; replace S8 := S8.below hb; replace b0 := below_any b0 hb b0.size; have f0 := S4.c0; have g0 := S5.c0; have f2 := S4.c2; have g2 := S5.c2; have f3 := S4.c3; have g3 := S5.c3; have f5 := S4.c5; have g5 := S5.c5; clear hb)
    | (go_at_call 45; (try rw [← H0.out]); (with_reducible refine (hn2 _).mono ?_); rintro e w' ⟨rfl, hb⟩; replace S4 := S4.below hb; replace S5 := S5.below hb; replace S8 := S8.below hb; replace b0 := below_any b0 hb b0.size; have f0 := S4.c0; have g0 := S5.c0; have f2 := S4.c2; have g2 := S5.c2; have f3 := S4.c3; have g3 := S5.c3; have f5 := S4.c5; have g5 := S5.c5; clear hb)
    | ((try rw [← H0.out]); (with_reducible refine wpList_store6 (k' := 0) (b' := false) (n' := 0) (t' := ⟨#[]⟩) (x' := ⟨#[]⟩) (p' := none) (len' := 0) (cap' := 0) (.tmp 8) (.tmp 93) (w.heap.size + 2) S8 ?_ ?_ ?_ ?_ ?_); rfl; rfl; rfl; rfl; intro w9 on9 S9))
  exact bodyPost_ret (results_six_tmp (p := 8) (q := 9) Tryz.results26 _ (.int .i64 2) rfl rfl S9) rfl ⟨none, 0, rfl, by unfold HeldT; exact ⟨none, 0, rfl⟩, below_only b0 on9 (by omega) b0.size⟩
end Go.Proofs.YtoifjjgakblhhaaGreatDoor

/- What Arith tells, by the document: what is no number. -/
namespace Go.Proofs.YtoifjjgakblhhaaGreatDoor
open Go.RowKit

set_option maxRecDepth 20000 in
set_option maxHeartbeats 12800000 in
theorem rfNone17 (lang : Int) (k : Int) (b : Bool) (n : Int) (t x : ByteArray) (q : List Val) (p : Option Addr) (cap : Nat) (k2 : Int) (b2 : Bool) (n2 : Int) (t2 x2 : ByteArray) (q2 : List Val) (p2 : Option Addr) (cap2 : Nat) (w : World) (m1 m2 : Bool) (hc1 : ∀ W, Below w.heap.size w W → Calls Tryz.prog 14 #[.agg #[.int .i64 k, .bool b, .int .i64 n, .string t, .string x, .slice p q.length cap]] W fun e w' => e = .returned (.bool m1) ∧ Below W.heap.size W w') (hc2 : ∀ W, Below w.heap.size w W → Calls Tryz.prog 14 #[.agg #[.int .i64 k2, .bool b2, .int .i64 n2, .string t2, .string x2, .slice p2 q2.length cap2]] W fun e w' => e = .returned (.bool m2) ∧ Below W.heap.size W w') (e1 : m1 = true) (e2 : m2 = true) (ez1 : (k == 0) = false) (ez2 : (k2 == 0) = false) (jl kk x4 x5 n1' n2' : Bool) (el : (lang != 1) = jl) (ek : (k == k2) = kk) (y4 : (k == 4) = x4) (y5 : (k == 5) = x5) (u1 : (k == 2 || k == 3) = n1') (u2 : (k2 == 2 || k2 == 3) = n2') (h1 : (jl && kk && x4) = false) (h2 : (jl && kk && x5) = false) (h3 : (n1' && n2') = false) :
    Calls Tryz.prog 26 #[.int .i64 lang, .int .i64 17, .agg #[.int .i64 k, .bool b, .int .i64 n, .string t, .string x, .slice p q.length cap], .agg #[.int .i64 k2, .bool b2, .int .i64 n2, .string t2, .string x2, .slice p2 q2.length cap2]] w (APost w 0 0 ⟨#[]⟩ [] 4) := by
  obtain ⟨W0, hW0⟩ : ∃ W0, W0 = ((w.alloc (.cells #[.int .i64 k, .bool b, .int .i64 n, .string t, .string x, .slice p q.length cap] 28)).alloc (.cells #[.int .i64 k2, .bool b2, .int .i64 n2, .string t2, .string x2, .slice p2 q2.length cap2] 28)).alloc (.cells #[.int .i64 0, .bool false, .int .i64 0, .string ⟨#[]⟩, .string ⟨#[]⟩, .slice none 0 0] 28) := ⟨_, rfl⟩
  have S4 : Six W0 w.heap.size k b n t x p q.length cap := by rw [hW0]; exact ((six_new _ rfl).alloc _).alloc _
  have S5 : Six W0 (w.heap.size + 1) k2 b2 n2 t2 x2 p2 q2.length cap2 := by rw [hW0]; exact (six_new _ (by simp)).alloc _
  have S8 : Six W0 (w.heap.size + 2) 0 false 0 ⟨#[]⟩ ⟨#[]⟩ none 0 0 := by rw [hW0]; exact six_new _ (by simp)
  have b0 : Below w.heap.size w W0 := by rw [hW0]; exact below3 _ _ _ _
  have f0 := S4.c0
  have g0 := S5.c0
  have f2 := S4.c2
  have g2 := S5.c2
  have f3 := S4.c3
  have g3 := S5.c3
  have f5 := S4.c5
  have g5 := S5.c5
  have H0 := Lib.hid hW0
  clear hW0
  have hn1 := fun W => refNumberAt k b n t x p q.length cap W
  have hn2 := fun W => refNumberAt k2 b2 n2 t2 x2 p2 q2.length cap2 W
  rw [u1] at hn1
  rw [u2] at hn2
  subst e1 e2
  have hcs : jl = false ∨ (jl = true ∧ kk = false) ∨ (jl = true ∧ kk = true ∧ x4 = false ∧ x5 = false) := by cases jl <;> cases kk <;> cases x4 <;> cases x5 <;> simp at h1 h2 ⊢
  have hns : n1' = false ∨ (n1' = true ∧ n2' = false) := by cases n1' <;> cases n2' <;> simp at h3 ⊢
  clear h1 h2 h3
  rcases hns with rfl | ⟨rfl, rfl⟩
  all_goals
    rcases hcs with rfl | ⟨rfl, rfl⟩ | ⟨rfl, rfl, rfl, rfl⟩
    all_goals
      go_enter Tryz.func26, Tryz.ntmps26
      go_wp2_with (first
        | ((try rw [← H0.out]); (with_reducible refine wpList_load6 (.tmp 6) w.heap.size S4 ?_ ?_ ?_ ?_); rfl; rfl; rfl)
        | ((try rw [← H0.out]); (with_reducible refine wpList_load6g (.tmp 6) w.heap.size S4 ?_ ?_ ?_ ?_); rfl; rfl; rfl)
        | ((try rw [← H0.out]); (with_reducible refine wpList_load6 (.tmp 7) (w.heap.size + 1) S5 ?_ ?_ ?_ ?_); rfl; rfl; rfl)
        | ((try rw [← H0.out]); (with_reducible refine wpList_load6g (.tmp 7) (w.heap.size + 1) S5 ?_ ?_ ?_ ?_); rfl; rfl; rfl)
        | (go_at_call 14; (try rw [← H0.out]); (with_reducible refine (hc1 _ b0).mono ?_); rintro e w' ⟨rfl, hb⟩; replace S4 := S4.below hb; replace S5 := S5.below hb; replace S8 := S8.below hb; replace b0 := below_any b0 hb b0.size; have f0 := S4.c0; have g0 := S5.c0; have f2 := S4.c2; have g2 := S5.c2; have f3 := S4.c3; have g3 := S5.c3; have f5 := S4.c5; have g5 := S5.c5; clear hb)
        | (go_at_call 14; (try rw [← H0.out]); (with_reducible refine (hc2 _ b0).mono ?_); rintro e w' ⟨rfl, hb⟩; replace S4 := S4.below hb; replace S5 := S5.below hb; replace S8 := S8.below hb; replace b0 := below_any b0 hb b0.size; have f0 := S4.c0; have g0 := S5.c0; have f2 := S4.c2; have g2 := S5.c2; have f3 := S4.c3; have g3 := S5.c3; have f5 := S4.c5; have g5 := S5.c5; clear hb)
        | (go_at_call 45; (try rw [← H0.out]); (with_reducible refine (hn1 _).mono ?_); rintro e w' ⟨rfl, hb⟩; replace S4 := S4.below hb; replace S5 := S5.below hb; replace S8 := S8.below hb; replace b0 := below_any b0 hb b0.size; have f0 := S4.c0; have g0 := S5.c0; have f2 := S4.c2; have g2 := S5.c2; have f3 := S4.c3; have g3 := S5.c3; have f5 := S4.c5; have g5 := S5.c5; clear hb)
        | (go_at_call 45; (try rw [← H0.out]); (with_reducible refine (hn2 _).mono ?_); rintro e w' ⟨rfl, hb⟩; replace S4 := S4.below hb; replace S5 := S5.below hb; replace S8 := S8.below hb; replace b0 := below_any b0 hb b0.size; have f0 := S4.c0; have g0 := S5.c0; have f2 := S4.c2; have g2 := S5.c2; have f3 := S4.c3; have g3 := S5.c3; have f5 := S4.c5; have g5 := S5.c5; clear hb)
        | ((try rw [← H0.out]); (with_reducible refine wpList_store6 (k' := 0) (b' := false) (n' := 0) (t' := ⟨#[]⟩) (x' := ⟨#[]⟩) (p' := none) (len' := 0) (cap' := 0) (.tmp 8) (.tmp 110) (w.heap.size + 2) S8 ?_ ?_ ?_ ?_ ?_); rfl; rfl; rfl; rfl; intro w9 on9 S9))
      exact bodyPost_ret (results_six_tmp (p := 8) (q := 9) Tryz.results26 _ (.int .i64 4) rfl rfl S9) rfl ⟨none, 0, rfl, by unfold HeldT; exact ⟨none, 0, rfl⟩, below_only b0 on9 (by omega) b0.size⟩

set_option maxRecDepth 20000 in
set_option maxHeartbeats 12800000 in
theorem rfNone (lang op : Int) (k : Int) (b : Bool) (n : Int) (t x : ByteArray) (q : List Val) (p : Option Addr) (cap : Nat) (k2 : Int) (b2 : Bool) (n2 : Int) (t2 x2 : ByteArray) (q2 : List Val) (p2 : Option Addr) (cap2 : Nat) (w : World) (m1 m2 : Bool) (hc1 : ∀ W, Below w.heap.size w W → Calls Tryz.prog 14 #[.agg #[.int .i64 k, .bool b, .int .i64 n, .string t, .string x, .slice p q.length cap]] W fun e w' => e = .returned (.bool m1) ∧ Below W.heap.size W w') (hc2 : ∀ W, Below w.heap.size w W → Calls Tryz.prog 14 #[.agg #[.int .i64 k2, .bool b2, .int .i64 n2, .string t2, .string x2, .slice p2 q2.length cap2]] W fun e w' => e = .returned (.bool m2) ∧ Below W.heap.size W w') (e1 : m1 = true) (e2 : m2 = true) (ez1 : (k == 0) = false) (ez2 : (k2 == 0) = false) (hop : op = 18 ∨ op = 19 ∨ op = 20 ∨ op = 21) (jl n1' n2' : Bool) (el : (lang != 1) = jl) (u1 : (k == 2 || k == 3) = n1') (u2 : (k2 == 2 || k2 == 3) = n2') (h3 : (n1' && n2') = false) :
    Calls Tryz.prog 26 #[.int .i64 lang, .int .i64 op, .agg #[.int .i64 k, .bool b, .int .i64 n, .string t, .string x, .slice p q.length cap], .agg #[.int .i64 k2, .bool b2, .int .i64 n2, .string t2, .string x2, .slice p2 q2.length cap2]] w (APost w 0 0 ⟨#[]⟩ [] 4) := by
  obtain ⟨W0, hW0⟩ : ∃ W0, W0 = ((w.alloc (.cells #[.int .i64 k, .bool b, .int .i64 n, .string t, .string x, .slice p q.length cap] 28)).alloc (.cells #[.int .i64 k2, .bool b2, .int .i64 n2, .string t2, .string x2, .slice p2 q2.length cap2] 28)).alloc (.cells #[.int .i64 0, .bool false, .int .i64 0, .string ⟨#[]⟩, .string ⟨#[]⟩, .slice none 0 0] 28) := ⟨_, rfl⟩
  have S4 : Six W0 w.heap.size k b n t x p q.length cap := by rw [hW0]; exact ((six_new _ rfl).alloc _).alloc _
  have S5 : Six W0 (w.heap.size + 1) k2 b2 n2 t2 x2 p2 q2.length cap2 := by rw [hW0]; exact (six_new _ (by simp)).alloc _
  have S8 : Six W0 (w.heap.size + 2) 0 false 0 ⟨#[]⟩ ⟨#[]⟩ none 0 0 := by rw [hW0]; exact six_new _ (by simp)
  have b0 : Below w.heap.size w W0 := by rw [hW0]; exact below3 _ _ _ _
  have f0 := S4.c0
  have g0 := S5.c0
  have f2 := S4.c2
  have g2 := S5.c2
  have f3 := S4.c3
  have g3 := S5.c3
  have f5 := S4.c5
  have g5 := S5.c5
  have H0 := Lib.hid hW0
  clear hW0
  have hn1 := fun W => refNumberAt k b n t x p q.length cap W
  have hn2 := fun W => refNumberAt k2 b2 n2 t2 x2 p2 q2.length cap2 W
  rw [u1] at hn1
  rw [u2] at hn2
  subst e1 e2
  have hns : n1' = false ∨ (n1' = true ∧ n2' = false) := by cases n1' <;> cases n2' <;> simp at h3 ⊢
  clear h3
  rcases hns with rfl | ⟨rfl, rfl⟩
  all_goals
    cases jl
    all_goals
      rcases hop with rfl | rfl | rfl | rfl
      all_goals
        go_enter Tryz.func26, Tryz.ntmps26
        go_wp2_with (first
          | ((try rw [← H0.out]); (with_reducible refine wpList_load6 (.tmp 6) w.heap.size S4 ?_ ?_ ?_ ?_); rfl; rfl; rfl)
          | ((try rw [← H0.out]); (with_reducible refine wpList_load6g (.tmp 6) w.heap.size S4 ?_ ?_ ?_ ?_); rfl; rfl; rfl)
          | ((try rw [← H0.out]); (with_reducible refine wpList_load6 (.tmp 7) (w.heap.size + 1) S5 ?_ ?_ ?_ ?_); rfl; rfl; rfl)
          | ((try rw [← H0.out]); (with_reducible refine wpList_load6g (.tmp 7) (w.heap.size + 1) S5 ?_ ?_ ?_ ?_); rfl; rfl; rfl)
          | (go_at_call 14; (try rw [← H0.out]); (with_reducible refine (hc1 _ b0).mono ?_); rintro e w' ⟨rfl, hb⟩; replace S4 := S4.below hb; replace S5 := S5.below hb; replace S8 := S8.below hb; replace b0 := below_any b0 hb b0.size; have f0 := S4.c0; have g0 := S5.c0; have f2 := S4.c2; have g2 := S5.c2; have f3 := S4.c3; have g3 := S5.c3; have f5 := S4.c5; have g5 := S5.c5; clear hb)
          | (go_at_call 14; (try rw [← H0.out]); (with_reducible refine (hc2 _ b0).mono ?_); rintro e w' ⟨rfl, hb⟩; replace S4 := S4.below hb; replace S5 := S5.below hb; replace S8 := S8.below hb; replace b0 := below_any b0 hb b0.size; have f0 := S4.c0; have g0 := S5.c0; have f2 := S4.c2; have g2 := S5.c2; have f3 := S4.c3; have g3 := S5.c3; have f5 := S4.c5; have g5 := S5.c5; clear hb)
          | (go_at_call 45; (try rw [← H0.out]); (with_reducible refine (hn1 _).mono ?_); rintro e w' ⟨rfl, hb⟩; replace S4 := S4.below hb; replace S5 := S5.below hb; replace S8 := S8.below hb; replace b0 := below_any b0 hb b0.size; have f0 := S4.c0; have g0 := S5.c0; have f2 := S4.c2; have g2 := S5.c2; have f3 := S4.c3; have g3 := S5.c3; have f5 := S4.c5; have g5 := S5.c5; clear hb)
          | (go_at_call 45; (try rw [← H0.out]); (with_reducible refine (hn2 _).mono ?_); rintro e w' ⟨rfl, hb⟩; replace S4 := S4.below hb; replace S5 := S5.below hb; replace S8 := S8.below hb; replace b0 := below_any b0 hb b0.size; have f0 := S4.c0; have g0 := S5.c0; have f2 := S4.c2; have g2 := S5.c2; have f3 := S4.c3; have g3 := S5.c3; have f5 := S4.c5; have g5 := S5.c5; clear hb)
          | ((try rw [← H0.out]); (with_reducible refine wpList_store6 (k' := 0) (b' := false) (n' := 0) (t' := ⟨#[]⟩) (x' := ⟨#[]⟩) (p' := none) (len' := 0) (cap' := 0) (.tmp 8) (.tmp 110) (w.heap.size + 2) S8 ?_ ?_ ?_ ?_ ?_); rfl; rfl; rfl; rfl; intro w9 on9 S9))
        exact bodyPost_ret (results_six_tmp (p := 8) (q := 9) Tryz.results26 _ (.int .i64 4) rfl rfl S9) rfl ⟨none, 0, rfl, by unfold HeldT; exact ⟨none, 0, rfl⟩, below_only b0 on9 (by omega) b0.size⟩
end Go.Proofs.YtoifjjgakblhhaaGreatDoor

/- What Arith tells, by the document: two whole numbers; a remainder that is none. -/
namespace Go.Proofs.YtoifjjgakblhhaaGreatDoor
open Go.RowKit

set_option maxRecDepth 20000 in
set_option maxHeartbeats 12800000 in
theorem rfInts (lang op : Int) (b : Bool) (n : Int) (t x : ByteArray) (q : List Val) (p : Option Addr) (cap : Nat) (b2 : Bool) (n2 : Int) (t2 x2 : ByteArray) (q2 : List Val) (p2 : Option Addr) (cap2 : Nat) (w : World) (k9 n9 : Int) (t9 : ByteArray) (e9 : Int) (m1 m2 : Bool) (hc1 : ∀ W, Below w.heap.size w W → Calls Tryz.prog 14 #[.agg #[.int .i64 2, .bool b, .int .i64 n, .string t, .string x, .slice p q.length cap]] W fun e w' => e = .returned (.bool m1) ∧ Below W.heap.size W w') (hc2 : ∀ W, Below w.heap.size w W → Calls Tryz.prog 14 #[.agg #[.int .i64 2, .bool b2, .int .i64 n2, .string t2, .string x2, .slice p2 q2.length cap2]] W fun e w' => e = .returned (.bool m2) ∧ Below W.heap.size W w') (e1 : m1 = true) (e2 : m2 = true) (hop : op = 17 ∨ op = 18 ∨ op = 19 ∨ op = 20 ∨ op = 21) (jl : Bool) (el : (lang != 1) = jl) (hc : ∀ W, Below w.heap.size w W → Calls Tryz.prog 61 #[.int .i64 lang, .int .i64 op, .int .i64 n, .int .i64 n2] W (RPost W k9 n9 t9 e9)) :
    Calls Tryz.prog 26 #[.int .i64 lang, .int .i64 op, .agg #[.int .i64 2, .bool b, .int .i64 n, .string t, .string x, .slice p q.length cap], .agg #[.int .i64 2, .bool b2, .int .i64 n2, .string t2, .string x2, .slice p2 q2.length cap2]] w (APost w k9 n9 t9 [] e9) := by
  obtain ⟨W0, hW0⟩ : ∃ W0, W0 = ((w.alloc (.cells #[.int .i64 2, .bool b, .int .i64 n, .string t, .string x, .slice p q.length cap] 28)).alloc (.cells #[.int .i64 2, .bool b2, .int .i64 n2, .string t2, .string x2, .slice p2 q2.length cap2] 28)).alloc (.cells #[.int .i64 0, .bool false, .int .i64 0, .string ⟨#[]⟩, .string ⟨#[]⟩, .slice none 0 0] 28) := ⟨_, rfl⟩
  have S4 : Six W0 w.heap.size 2 b n t x p q.length cap := by rw [hW0]; exact ((six_new _ rfl).alloc _).alloc _
  have S5 : Six W0 (w.heap.size + 1) 2 b2 n2 t2 x2 p2 q2.length cap2 := by rw [hW0]; exact (six_new _ (by simp)).alloc _
  have S8 : Six W0 (w.heap.size + 2) 0 false 0 ⟨#[]⟩ ⟨#[]⟩ none 0 0 := by rw [hW0]; exact six_new _ (by simp)
  have b0 : Below w.heap.size w W0 := by rw [hW0]; exact below3 _ _ _ _
  have f0 := S4.c0
  have g0 := S5.c0
  have f2 := S4.c2
  have g2 := S5.c2
  have f3 := S4.c3
  have g3 := S5.c3
  have f5 := S4.c5
  have g5 := S5.c5
  have H0 := Lib.hid hW0
  clear hW0
  have hn1 := fun W => refNumberAt 2 b n t x p q.length cap W
  have hn2 := fun W => refNumberAt 2 b2 n2 t2 x2 p2 q2.length cap2 W
  unfold RPost at hc
  subst e1 e2
  cases jl
  all_goals
    rcases hop with rfl | rfl | rfl | rfl | rfl
    all_goals
      go_enter Tryz.func26, Tryz.ntmps26
      go_wp2_with (first
        | ((try rw [← H0.out]); (with_reducible refine wpList_load6 (.tmp 6) w.heap.size S4 ?_ ?_ ?_ ?_); rfl; rfl; rfl)
        | ((try rw [← H0.out]); (with_reducible refine wpList_load6g (.tmp 6) w.heap.size S4 ?_ ?_ ?_ ?_); rfl; rfl; rfl)
        | ((try rw [← H0.out]); (with_reducible refine wpList_load6 (.tmp 7) (w.heap.size + 1) S5 ?_ ?_ ?_ ?_); rfl; rfl; rfl)
        | ((try rw [← H0.out]); (with_reducible refine wpList_load6g (.tmp 7) (w.heap.size + 1) S5 ?_ ?_ ?_ ?_); rfl; rfl; rfl)
        | (go_at_call 14; (try rw [← H0.out]); (with_reducible refine (hc1 _ b0).mono ?_); rintro e w' ⟨rfl, hb⟩; replace S4 := S4.below hb; replace S5 := S5.below hb; replace S8 := S8.below hb; replace b0 := below_any b0 hb b0.size; have f0 := S4.c0; have g0 := S5.c0; have f2 := S4.c2; have g2 := S5.c2; have f3 := S4.c3; have g3 := S5.c3; have f5 := S4.c5; have g5 := S5.c5; clear hb)
        | (go_at_call 14; (try rw [← H0.out]); (with_reducible refine (hc2 _ b0).mono ?_); rintro e w' ⟨rfl, hb⟩; replace S4 := S4.below hb; replace S5 := S5.below hb; replace S8 := S8.below hb; replace b0 := below_any b0 hb b0.size; have f0 := S4.c0; have g0 := S5.c0; have f2 := S4.c2; have g2 := S5.c2; have f3 := S4.c3; have g3 := S5.c3; have f5 := S4.c5; have g5 := S5.c5; clear hb)
        | (go_at_call 45; (try rw [← H0.out]); (with_reducible refine (hn1 _).mono ?_); rintro e w' ⟨rfl, hb⟩; replace S4 := S4.below hb; replace S5 := S5.below hb; replace S8 := S8.below hb; replace b0 := below_any b0 hb b0.size; have f0 := S4.c0; have g0 := S5.c0; have f2 := S4.c2; have g2 := S5.c2; have f3 := S4.c3; have g3 := S5.c3; have f5 := S4.c5; have g5 := S5.c5; clear hb)
        | (go_at_call 45; (try rw [← H0.out]); (with_reducible refine (hn2 _).mono ?_); rintro e w' ⟨rfl, hb⟩; replace S4 := S4.below hb; replace S5 := S5.below hb; replace S8 := S8.below hb; replace b0 := below_any b0 hb b0.size; have f0 := S4.c0; have g0 := S5.c0; have f2 := S4.c2; have g2 := S5.c2; have f3 := S4.c3; have g3 := S5.c3; have f5 := S4.c5; have g5 := S5.c5; clear hb)
        | (go_at_call 61; (try rw [← H0.out]); (with_reducible refine (hc _ b0).mono ?_); rintro e w3 ⟨rfl, hb3⟩; have z3 := S8.lt; have T8 := S8.below hb3; have b3 := below_any b0 hb3 b0.size)
        | ((with_reducible refine wpList_store6 (k' := k9) (b' := false) (n' := n9) (t' := t9) (x' := ⟨#[]⟩) (p' := none) (len' := 0) (cap' := 0) (.tmp 8) (.tmp 126) (w.heap.size + 2) T8 ?_ ?_ ?_ ?_ ?_); rfl; rfl; rfl; rfl; intro w9 on9 S9))
      exact bodyPost_ret (results_six_tmp (p := 8) (q := 9) Tryz.results26 _ (.int .i64 e9) rfl rfl S9) rfl ⟨none, 0, rfl, by unfold HeldT; exact ⟨none, 0, rfl⟩, below_only b3 on9 (by omega) b3.size⟩

set_option maxRecDepth 20000 in
set_option maxHeartbeats 12800000 in
theorem rfMod23 (lang : Int) (b : Bool) (n : Int) (t x : ByteArray) (q : List Val) (p : Option Addr) (cap : Nat) (b2 : Bool) (n2 : Int) (t2 x2 : ByteArray) (q2 : List Val) (p2 : Option Addr) (cap2 : Nat) (w : World) (m1 m2 : Bool) (hc1 : ∀ W, Below w.heap.size w W → Calls Tryz.prog 14 #[.agg #[.int .i64 2, .bool b, .int .i64 n, .string t, .string x, .slice p q.length cap]] W fun e w' => e = .returned (.bool m1) ∧ Below W.heap.size W w') (hc2 : ∀ W, Below w.heap.size w W → Calls Tryz.prog 14 #[.agg #[.int .i64 3, .bool b2, .int .i64 n2, .string t2, .string x2, .slice p2 q2.length cap2]] W fun e w' => e = .returned (.bool m2) ∧ Below W.heap.size W w') (e1 : m1 = true) (e2 : m2 = true) (jl : Bool) (el : (lang != 1) = jl) :
    Calls Tryz.prog 26 #[.int .i64 lang, .int .i64 21, .agg #[.int .i64 2, .bool b, .int .i64 n, .string t, .string x, .slice p q.length cap], .agg #[.int .i64 3, .bool b2, .int .i64 n2, .string t2, .string x2, .slice p2 q2.length cap2]] w (APost w 0 0 ⟨#[]⟩ [] 4) := by
  obtain ⟨W0, hW0⟩ : ∃ W0, W0 = ((w.alloc (.cells #[.int .i64 2, .bool b, .int .i64 n, .string t, .string x, .slice p q.length cap] 28)).alloc (.cells #[.int .i64 3, .bool b2, .int .i64 n2, .string t2, .string x2, .slice p2 q2.length cap2] 28)).alloc (.cells #[.int .i64 0, .bool false, .int .i64 0, .string ⟨#[]⟩, .string ⟨#[]⟩, .slice none 0 0] 28) := ⟨_, rfl⟩
  have S4 : Six W0 w.heap.size 2 b n t x p q.length cap := by rw [hW0]; exact ((six_new _ rfl).alloc _).alloc _
  have S5 : Six W0 (w.heap.size + 1) 3 b2 n2 t2 x2 p2 q2.length cap2 := by rw [hW0]; exact (six_new _ (by simp)).alloc _
  have S8 : Six W0 (w.heap.size + 2) 0 false 0 ⟨#[]⟩ ⟨#[]⟩ none 0 0 := by rw [hW0]; exact six_new _ (by simp)
  have b0 : Below w.heap.size w W0 := by rw [hW0]; exact below3 _ _ _ _
  have f0 := S4.c0
  have g0 := S5.c0
  have f2 := S4.c2
  have g2 := S5.c2
  have f3 := S4.c3
  have g3 := S5.c3
  have f5 := S4.c5
  have g5 := S5.c5
  have H0 := Lib.hid hW0
  clear hW0
  have hn1 := fun W => refNumberAt 2 b n t x p q.length cap W
  have hn2 := fun W => refNumberAt 3 b2 n2 t2 x2 p2 q2.length cap2 W
  subst e1 e2
  cases jl
  all_goals
    go_enter Tryz.func26, Tryz.ntmps26
    go_wp2_with (first
      | ((try rw [← H0.out]); (with_reducible refine wpList_load6 (.tmp 6) w.heap.size S4 ?_ ?_ ?_ ?_); rfl; rfl; rfl)
      | ((try rw [← H0.out]); (with_reducible refine wpList_load6g (.tmp 6) w.heap.size S4 ?_ ?_ ?_ ?_); rfl; rfl; rfl)
      | ((try rw [← H0.out]); (with_reducible refine wpList_load6 (.tmp 7) (w.heap.size + 1) S5 ?_ ?_ ?_ ?_); rfl; rfl; rfl)
      | ((try rw [← H0.out]); (with_reducible refine wpList_load6g (.tmp 7) (w.heap.size + 1) S5 ?_ ?_ ?_ ?_); rfl; rfl; rfl)
      | (go_at_call 14; (try rw [← H0.out]); (with_reducible refine (hc1 _ b0).mono ?_); rintro e w' ⟨rfl, hb⟩; replace S4 := S4.below hb; replace S5 := S5.below hb; replace S8 := S8.below hb; replace b0 := below_any b0 hb b0.size; have f0 := S4.c0; have g0 := S5.c0; have f2 := S4.c2; have g2 := S5.c2; have f3 := S4.c3; have g3 := S5.c3; have f5 := S4.c5; have g5 := S5.c5; clear hb)
      | (go_at_call 14; (try rw [← H0.out]); (with_reducible refine (hc2 _ b0).mono ?_); rintro e w' ⟨rfl, hb⟩; replace S4 := S4.below hb; replace S5 := S5.below hb; replace S8 := S8.below hb; replace b0 := below_any b0 hb b0.size; have f0 := S4.c0; have g0 := S5.c0; have f2 := S4.c2; have g2 := S5.c2; have f3 := S4.c3; have g3 := S5.c3; have f5 := S4.c5; have g5 := S5.c5; clear hb)
      | (go_at_call 45; (try rw [← H0.out]); (with_reducible refine (hn1 _).mono ?_); rintro e w' ⟨rfl, hb⟩; replace S4 := S4.below hb; replace S5 := S5.below hb; replace S8 := S8.below hb; replace b0 := below_any b0 hb b0.size; have f0 := S4.c0; have g0 := S5.c0; have f2 := S4.c2; have g2 := S5.c2; have f3 := S4.c3; have g3 := S5.c3; have f5 := S4.c5; have g5 := S5.c5; clear hb)
      | (go_at_call 45; (try rw [← H0.out]); (with_reducible refine (hn2 _).mono ?_); rintro e w' ⟨rfl, hb⟩; replace S4 := S4.below hb; replace S5 := S5.below hb; replace S8 := S8.below hb; replace b0 := below_any b0 hb b0.size; have f0 := S4.c0; have g0 := S5.c0; have f2 := S4.c2; have g2 := S5.c2; have f3 := S4.c3; have g3 := S5.c3; have f5 := S4.c5; have g5 := S5.c5; clear hb)
      | ((try rw [← H0.out]); (with_reducible refine wpList_store6 (k' := 0) (b' := false) (n' := 0) (t' := ⟨#[]⟩) (x' := ⟨#[]⟩) (p' := none) (len' := 0) (cap' := 0) (.tmp 8) (.tmp 131) (w.heap.size + 2) S8 ?_ ?_ ?_ ?_ ?_); rfl; rfl; rfl; rfl; intro w9 on9 S9))
    exact bodyPost_ret (results_six_tmp (p := 8) (q := 9) Tryz.results26 _ (.int .i64 4) rfl rfl S9) rfl ⟨none, 0, rfl, by unfold HeldT; exact ⟨none, 0, rfl⟩, below_only b0 on9 (by omega) b0.size⟩

set_option maxRecDepth 20000 in
set_option maxHeartbeats 12800000 in
theorem rfMod32 (lang : Int) (b : Bool) (n : Int) (t x : ByteArray) (q : List Val) (p : Option Addr) (cap : Nat) (b2 : Bool) (n2 : Int) (t2 x2 : ByteArray) (q2 : List Val) (p2 : Option Addr) (cap2 : Nat) (w : World) (m1 m2 : Bool) (hc1 : ∀ W, Below w.heap.size w W → Calls Tryz.prog 14 #[.agg #[.int .i64 3, .bool b, .int .i64 n, .string t, .string x, .slice p q.length cap]] W fun e w' => e = .returned (.bool m1) ∧ Below W.heap.size W w') (hc2 : ∀ W, Below w.heap.size w W → Calls Tryz.prog 14 #[.agg #[.int .i64 2, .bool b2, .int .i64 n2, .string t2, .string x2, .slice p2 q2.length cap2]] W fun e w' => e = .returned (.bool m2) ∧ Below W.heap.size W w') (e1 : m1 = true) (e2 : m2 = true) (jl : Bool) (el : (lang != 1) = jl) :
    Calls Tryz.prog 26 #[.int .i64 lang, .int .i64 21, .agg #[.int .i64 3, .bool b, .int .i64 n, .string t, .string x, .slice p q.length cap], .agg #[.int .i64 2, .bool b2, .int .i64 n2, .string t2, .string x2, .slice p2 q2.length cap2]] w (APost w 0 0 ⟨#[]⟩ [] 4) := by
  obtain ⟨W0, hW0⟩ : ∃ W0, W0 = ((w.alloc (.cells #[.int .i64 3, .bool b, .int .i64 n, .string t, .string x, .slice p q.length cap] 28)).alloc (.cells #[.int .i64 2, .bool b2, .int .i64 n2, .string t2, .string x2, .slice p2 q2.length cap2] 28)).alloc (.cells #[.int .i64 0, .bool false, .int .i64 0, .string ⟨#[]⟩, .string ⟨#[]⟩, .slice none 0 0] 28) := ⟨_, rfl⟩
  have S4 : Six W0 w.heap.size 3 b n t x p q.length cap := by rw [hW0]; exact ((six_new _ rfl).alloc _).alloc _
  have S5 : Six W0 (w.heap.size + 1) 2 b2 n2 t2 x2 p2 q2.length cap2 := by rw [hW0]; exact (six_new _ (by simp)).alloc _
  have S8 : Six W0 (w.heap.size + 2) 0 false 0 ⟨#[]⟩ ⟨#[]⟩ none 0 0 := by rw [hW0]; exact six_new _ (by simp)
  have b0 : Below w.heap.size w W0 := by rw [hW0]; exact below3 _ _ _ _
  have f0 := S4.c0
  have g0 := S5.c0
  have f2 := S4.c2
  have g2 := S5.c2
  have f3 := S4.c3
  have g3 := S5.c3
  have f5 := S4.c5
  have g5 := S5.c5
  have H0 := Lib.hid hW0
  clear hW0
  have hn1 := fun W => refNumberAt 3 b n t x p q.length cap W
  have hn2 := fun W => refNumberAt 2 b2 n2 t2 x2 p2 q2.length cap2 W
  subst e1 e2
  cases jl
  all_goals
    go_enter Tryz.func26, Tryz.ntmps26
    go_wp2_with (first
      | ((try rw [← H0.out]); (with_reducible refine wpList_load6 (.tmp 6) w.heap.size S4 ?_ ?_ ?_ ?_); rfl; rfl; rfl)
      | ((try rw [← H0.out]); (with_reducible refine wpList_load6g (.tmp 6) w.heap.size S4 ?_ ?_ ?_ ?_); rfl; rfl; rfl)
      | ((try rw [← H0.out]); (with_reducible refine wpList_load6 (.tmp 7) (w.heap.size + 1) S5 ?_ ?_ ?_ ?_); rfl; rfl; rfl)
      | ((try rw [← H0.out]); (with_reducible refine wpList_load6g (.tmp 7) (w.heap.size + 1) S5 ?_ ?_ ?_ ?_); rfl; rfl; rfl)
      | (go_at_call 14; (try rw [← H0.out]); (with_reducible refine (hc1 _ b0).mono ?_); rintro e w' ⟨rfl, hb⟩; replace S4 := S4.below hb; replace S5 := S5.below hb; replace S8 := S8.below hb; replace b0 := below_any b0 hb b0.size; have f0 := S4.c0; have g0 := S5.c0; have f2 := S4.c2; have g2 := S5.c2; have f3 := S4.c3; have g3 := S5.c3; have f5 := S4.c5; have g5 := S5.c5; clear hb)
      | (go_at_call 14; (try rw [← H0.out]); (with_reducible refine (hc2 _ b0).mono ?_); rintro e w' ⟨rfl, hb⟩; replace S4 := S4.below hb; replace S5 := S5.below hb; replace S8 := S8.below hb; replace b0 := below_any b0 hb b0.size; have f0 := S4.c0; have g0 := S5.c0; have f2 := S4.c2; have g2 := S5.c2; have f3 := S4.c3; have g3 := S5.c3; have f5 := S4.c5; have g5 := S5.c5; clear hb)
      | (go_at_call 45; (try rw [← H0.out]); (with_reducible refine (hn1 _).mono ?_); rintro e w' ⟨rfl, hb⟩; replace S4 := S4.below hb; replace S5 := S5.below hb; replace S8 := S8.below hb; replace b0 := below_any b0 hb b0.size; have f0 := S4.c0; have g0 := S5.c0; have f2 := S4.c2; have g2 := S5.c2; have f3 := S4.c3; have g3 := S5.c3; have f5 := S4.c5; have g5 := S5.c5; clear hb)
      | (go_at_call 45; (try rw [← H0.out]); (with_reducible refine (hn2 _).mono ?_); rintro e w' ⟨rfl, hb⟩; replace S4 := S4.below hb; replace S5 := S5.below hb; replace S8 := S8.below hb; replace b0 := below_any b0 hb b0.size; have f0 := S4.c0; have g0 := S5.c0; have f2 := S4.c2; have g2 := S5.c2; have f3 := S4.c3; have g3 := S5.c3; have f5 := S4.c5; have g5 := S5.c5; clear hb)
      | ((try rw [← H0.out]); (with_reducible refine wpList_store6 (k' := 0) (b' := false) (n' := 0) (t' := ⟨#[]⟩) (x' := ⟨#[]⟩) (p' := none) (len' := 0) (cap' := 0) (.tmp 8) (.tmp 131) (w.heap.size + 2) S8 ?_ ?_ ?_ ?_ ?_); rfl; rfl; rfl; rfl; intro w9 on9 S9))
    exact bodyPost_ret (results_six_tmp (p := 8) (q := 9) Tryz.results26 _ (.int .i64 4) rfl rfl S9) rfl ⟨none, 0, rfl, by unfold HeldT; exact ⟨none, 0, rfl⟩, below_only b0 on9 (by omega) b0.size⟩

set_option maxRecDepth 20000 in
set_option maxHeartbeats 12800000 in
theorem rfMod33 (lang : Int) (b : Bool) (n : Int) (t x : ByteArray) (q : List Val) (p : Option Addr) (cap : Nat) (b2 : Bool) (n2 : Int) (t2 x2 : ByteArray) (q2 : List Val) (p2 : Option Addr) (cap2 : Nat) (w : World) (m1 m2 : Bool) (hc1 : ∀ W, Below w.heap.size w W → Calls Tryz.prog 14 #[.agg #[.int .i64 3, .bool b, .int .i64 n, .string t, .string x, .slice p q.length cap]] W fun e w' => e = .returned (.bool m1) ∧ Below W.heap.size W w') (hc2 : ∀ W, Below w.heap.size w W → Calls Tryz.prog 14 #[.agg #[.int .i64 3, .bool b2, .int .i64 n2, .string t2, .string x2, .slice p2 q2.length cap2]] W fun e w' => e = .returned (.bool m2) ∧ Below W.heap.size W w') (e1 : m1 = true) (e2 : m2 = true) (jl : Bool) (el : (lang != 1) = jl) :
    Calls Tryz.prog 26 #[.int .i64 lang, .int .i64 21, .agg #[.int .i64 3, .bool b, .int .i64 n, .string t, .string x, .slice p q.length cap], .agg #[.int .i64 3, .bool b2, .int .i64 n2, .string t2, .string x2, .slice p2 q2.length cap2]] w (APost w 0 0 ⟨#[]⟩ [] 4) := by
  obtain ⟨W0, hW0⟩ : ∃ W0, W0 = ((w.alloc (.cells #[.int .i64 3, .bool b, .int .i64 n, .string t, .string x, .slice p q.length cap] 28)).alloc (.cells #[.int .i64 3, .bool b2, .int .i64 n2, .string t2, .string x2, .slice p2 q2.length cap2] 28)).alloc (.cells #[.int .i64 0, .bool false, .int .i64 0, .string ⟨#[]⟩, .string ⟨#[]⟩, .slice none 0 0] 28) := ⟨_, rfl⟩
  have S4 : Six W0 w.heap.size 3 b n t x p q.length cap := by rw [hW0]; exact ((six_new _ rfl).alloc _).alloc _
  have S5 : Six W0 (w.heap.size + 1) 3 b2 n2 t2 x2 p2 q2.length cap2 := by rw [hW0]; exact (six_new _ (by simp)).alloc _
  have S8 : Six W0 (w.heap.size + 2) 0 false 0 ⟨#[]⟩ ⟨#[]⟩ none 0 0 := by rw [hW0]; exact six_new _ (by simp)
  have b0 : Below w.heap.size w W0 := by rw [hW0]; exact below3 _ _ _ _
  have f0 := S4.c0
  have g0 := S5.c0
  have f2 := S4.c2
  have g2 := S5.c2
  have f3 := S4.c3
  have g3 := S5.c3
  have f5 := S4.c5
  have g5 := S5.c5
  have H0 := Lib.hid hW0
  clear hW0
  have hn1 := fun W => refNumberAt 3 b n t x p q.length cap W
  have hn2 := fun W => refNumberAt 3 b2 n2 t2 x2 p2 q2.length cap2 W
  subst e1 e2
  cases jl
  all_goals
    go_enter Tryz.func26, Tryz.ntmps26
    go_wp2_with (first
      | ((try rw [← H0.out]); (with_reducible refine wpList_load6 (.tmp 6) w.heap.size S4 ?_ ?_ ?_ ?_); rfl; rfl; rfl)
      | ((try rw [← H0.out]); (with_reducible refine wpList_load6g (.tmp 6) w.heap.size S4 ?_ ?_ ?_ ?_); rfl; rfl; rfl)
      | ((try rw [← H0.out]); (with_reducible refine wpList_load6 (.tmp 7) (w.heap.size + 1) S5 ?_ ?_ ?_ ?_); rfl; rfl; rfl)
      | ((try rw [← H0.out]); (with_reducible refine wpList_load6g (.tmp 7) (w.heap.size + 1) S5 ?_ ?_ ?_ ?_); rfl; rfl; rfl)
      | (go_at_call 14; (try rw [← H0.out]); (with_reducible refine (hc1 _ b0).mono ?_); rintro e w' ⟨rfl, hb⟩; replace S4 := S4.below hb; replace S5 := S5.below hb; replace S8 := S8.below hb; replace b0 := below_any b0 hb b0.size; have f0 := S4.c0; have g0 := S5.c0; have f2 := S4.c2; have g2 := S5.c2; have f3 := S4.c3; have g3 := S5.c3; have f5 := S4.c5; have g5 := S5.c5; clear hb)
      | (go_at_call 14; (try rw [← H0.out]); (with_reducible refine (hc2 _ b0).mono ?_); rintro e w' ⟨rfl, hb⟩; replace S4 := S4.below hb; replace S5 := S5.below hb; replace S8 := S8.below hb; replace b0 := below_any b0 hb b0.size; have f0 := S4.c0; have g0 := S5.c0; have f2 := S4.c2; have g2 := S5.c2; have f3 := S4.c3; have g3 := S5.c3; have f5 := S4.c5; have g5 := S5.c5; clear hb)
      | (go_at_call 45; (try rw [← H0.out]); (with_reducible refine (hn1 _).mono ?_); rintro e w' ⟨rfl, hb⟩; replace S4 := S4.below hb; replace S5 := S5.below hb; replace S8 := S8.below hb; replace b0 := below_any b0 hb b0.size; have f0 := S4.c0; have g0 := S5.c0; have f2 := S4.c2; have g2 := S5.c2; have f3 := S4.c3; have g3 := S5.c3; have f5 := S4.c5; have g5 := S5.c5; clear hb)
      | (go_at_call 45; (try rw [← H0.out]); (with_reducible refine (hn2 _).mono ?_); rintro e w' ⟨rfl, hb⟩; replace S4 := S4.below hb; replace S5 := S5.below hb; replace S8 := S8.below hb; replace b0 := below_any b0 hb b0.size; have f0 := S4.c0; have g0 := S5.c0; have f2 := S4.c2; have g2 := S5.c2; have f3 := S4.c3; have g3 := S5.c3; have f5 := S4.c5; have g5 := S5.c5; clear hb)
      | ((try rw [← H0.out]); (with_reducible refine wpList_store6 (k' := 0) (b' := false) (n' := 0) (t' := ⟨#[]⟩) (x' := ⟨#[]⟩) (p' := none) (len' := 0) (cap' := 0) (.tmp 8) (.tmp 131) (w.heap.size + 2) S8 ?_ ?_ ?_ ?_ ?_); rfl; rfl; rfl; rfl; intro w9 on9 S9))
    exact bodyPost_ret (results_six_tmp (p := 8) (q := 9) Tryz.results26 _ (.int .i64 4) rfl rfl S9) rfl ⟨none, 0, rfl, by unfold HeldT; exact ⟨none, 0, rfl⟩, below_only b0 on9 (by omega) b0.size⟩
end Go.Proofs.YtoifjjgakblhhaaGreatDoor
