/- Texts of one kind, one behind the other: each says ahead of itself what it shows. -/
import Derived.Test.YtdnijfkiebpnpaaGreatDoorHak
import Derived.Test.YtdnijfkiebpnpaaGreatDoorHah
import Derived.BigGuardPart
import Derived.Deep.DeepCutAuto
/- A value as a condition, by the program: in C, in S. -/
namespace Go.Proofs.YtdnijfkiebpnpaaGreatDoor
open Go.RowKit

theorem truthOfC (b : Bool) (w : World) : Calls Tryz.prog 22 #[.bool b] w fun e w' => e = .returned (.int .i64 (tI b)) ∧ w' = w := by
  cases b
  all_goals
    go_enter Tryz.func22, Tryz.ntmps22
    go_wp2_with fail
    go_ret
    exact ⟨rfl, rfl⟩
theorem truthRef (b : Bool) (w : World) : Calls Tryz.prog 13 #[.bool b] w fun e w' => e = .returned (.int .i64 (tI b)) ∧ w' = w := by
  cases b
  all_goals
    go_enter Tryz.func13, Tryz.ntmps13
    go_wp2_with fail
    go_ret
    exact ⟨rfl, rfl⟩

set_option maxRecDepth 20000 in
set_option maxHeartbeats 3200000 in
theorem opBad (k : Int) (b : Bool) (n : Int) (t x : ByteArray) (q : List Val) (p : Option Addr) (cap : Nat) (w : World) (m : Bool) (hc : ∀ W, Below w.heap.size w W → Calls Tryz.prog 21 #[.agg #[.int .i64 k, .bool b, .int .i64 n, .string t, .string x, .slice p q.length cap]] W fun e w' => e = .returned (.bool m) ∧ Below W.heap.size W w') (hm : m = false) :
    Calls Tryz.prog 11 #[.agg #[.int .i64 k, .bool b, .int .i64 n, .string t, .string x, .slice p q.length cap]] w fun e w' => e = .returned (.tuple #[.int .i64 0, .int .i64 1]) ∧ Below w.heap.size w w' := by
  subst hm
  obtain ⟨W0, hW0⟩ : ∃ W0, W0 = w.alloc (.cells #[.int .i64 k, .bool b, .int .i64 n, .string t, .string x, .slice p q.length cap] 26) := ⟨_, rfl⟩
  have S : Six W0 w.heap.size k b n t x p q.length cap := by rw [hW0]; exact six_new _ rfl
  have b0 : Below w.heap.size w W0 := by rw [hW0]; exact below1 _ _
  have f0 := S.c0
  have f1 := S.c1
  have f3 := S.c3
  have H0 := Lib.hid hW0
  clear hW0
  go_enter Tryz.func11, Tryz.ntmps11
  go_wp2_with (first
    | ((try rw [← H0.out]); (with_reducible refine wpList_load6 (.tmp 1) w.heap.size S ?_ ?_ ?_ ?_); rfl; rfl; rfl)
    | ((try rw [← H0.out]); (with_reducible refine wpList_load6g (.tmp 1) w.heap.size S ?_ ?_ ?_ ?_); rfl; rfl; rfl)
    | (go_at_call 21; (try rw [← H0.out]); (with_reducible refine (hc _ b0).mono ?_); rintro e w' ⟨rfl, hb⟩; replace S := S.below hb; replace b0 := below_any b0 hb b0.size; have f0 := S.c0; have f1 := S.c1; have f3 := S.c3; clear hb))
  go_ret2
  exact ⟨rfl, b0⟩

set_option maxRecDepth 20000 in
set_option maxHeartbeats 3200000 in
theorem opBool (b : Bool) (n : Int) (t x : ByteArray) (q : List Val) (p : Option Addr) (cap : Nat) (w : World) (m : Bool) (hc : ∀ W, Below w.heap.size w W → Calls Tryz.prog 21 #[.agg #[.int .i64 1, .bool b, .int .i64 n, .string t, .string x, .slice p q.length cap]] W fun e w' => e = .returned (.bool m) ∧ Below W.heap.size W w') (hm : m = true) :
    Calls Tryz.prog 11 #[.agg #[.int .i64 1, .bool b, .int .i64 n, .string t, .string x, .slice p q.length cap]] w fun e w' => e = .returned (.tuple #[.int .i64 (tI b), .int .i64 0]) ∧ Below w.heap.size w w' := by
  subst hm
  obtain ⟨W0, hW0⟩ : ∃ W0, W0 = w.alloc (.cells #[.int .i64 1, .bool b, .int .i64 n, .string t, .string x, .slice p q.length cap] 26) := ⟨_, rfl⟩
  have S : Six W0 w.heap.size 1 b n t x p q.length cap := by rw [hW0]; exact six_new _ rfl
  have b0 : Below w.heap.size w W0 := by rw [hW0]; exact below1 _ _
  have f0 := S.c0
  have f1 := S.c1
  have f3 := S.c3
  have H0 := Lib.hid hW0
  clear hW0
  go_enter Tryz.func11, Tryz.ntmps11
  go_wp2_with (first
    | ((try rw [← H0.out]); (with_reducible refine wpList_load6 (.tmp 1) w.heap.size S ?_ ?_ ?_ ?_); rfl; rfl; rfl)
    | ((try rw [← H0.out]); (with_reducible refine wpList_load6g (.tmp 1) w.heap.size S ?_ ?_ ?_ ?_); rfl; rfl; rfl)
    | (go_at_call 21; (try rw [← H0.out]); (with_reducible refine (hc _ b0).mono ?_); rintro e w' ⟨rfl, hb⟩; replace S := S.below hb; replace b0 := below_any b0 hb b0.size; have f0 := S.c0; have f1 := S.c1; have f3 := S.c3; clear hb)
    | (go_at_call 22; (with_reducible refine (truthOfC _ _).mono ?_); rintro e w' ⟨rfl, rfl⟩))
  go_ret2
  exact ⟨rfl, b0⟩

set_option maxRecDepth 20000 in
set_option maxHeartbeats 3200000 in
theorem opNull (b : Bool) (n : Int) (t x : ByteArray) (q : List Val) (p : Option Addr) (cap : Nat) (w : World) (m : Bool) (hc : ∀ W, Below w.heap.size w W → Calls Tryz.prog 21 #[.agg #[.int .i64 0, .bool b, .int .i64 n, .string t, .string x, .slice p q.length cap]] W fun e w' => e = .returned (.bool m) ∧ Below W.heap.size W w') (hm : m = true) :
    Calls Tryz.prog 11 #[.agg #[.int .i64 0, .bool b, .int .i64 n, .string t, .string x, .slice p q.length cap]] w fun e w' => e = .returned (.tuple #[.int .i64 2, .int .i64 0]) ∧ Below w.heap.size w w' := by
  subst hm
  obtain ⟨W0, hW0⟩ : ∃ W0, W0 = w.alloc (.cells #[.int .i64 0, .bool b, .int .i64 n, .string t, .string x, .slice p q.length cap] 26) := ⟨_, rfl⟩
  have S : Six W0 w.heap.size 0 b n t x p q.length cap := by rw [hW0]; exact six_new _ rfl
  have b0 : Below w.heap.size w W0 := by rw [hW0]; exact below1 _ _
  have f0 := S.c0
  have f1 := S.c1
  have f3 := S.c3
  have H0 := Lib.hid hW0
  clear hW0
  go_enter Tryz.func11, Tryz.ntmps11
  go_wp2_with (first
    | ((try rw [← H0.out]); (with_reducible refine wpList_load6 (.tmp 1) w.heap.size S ?_ ?_ ?_ ?_); rfl; rfl; rfl)
    | ((try rw [← H0.out]); (with_reducible refine wpList_load6g (.tmp 1) w.heap.size S ?_ ?_ ?_ ?_); rfl; rfl; rfl)
    | (go_at_call 21; (try rw [← H0.out]); (with_reducible refine (hc _ b0).mono ?_); rintro e w' ⟨rfl, hb⟩; replace S := S.below hb; replace b0 := below_any b0 hb b0.size; have f0 := S.c0; have f1 := S.c1; have f3 := S.c3; clear hb))
  go_ret2
  exact ⟨rfl, b0⟩

set_option maxRecDepth 20000 in
set_option maxHeartbeats 3200000 in
theorem opElse (k : Int) (b : Bool) (n : Int) (t x : ByteArray) (q : List Val) (p : Option Addr) (cap : Nat) (w : World) (m : Bool) (hc : ∀ W, Below w.heap.size w W → Calls Tryz.prog 21 #[.agg #[.int .i64 k, .bool b, .int .i64 n, .string t, .string x, .slice p q.length cap]] W fun e w' => e = .returned (.bool m) ∧ Below W.heap.size W w') (hm : m = true) (h1 : (k == 1) = false) (h2 : (k == 0) = false) :
    Calls Tryz.prog 11 #[.agg #[.int .i64 k, .bool b, .int .i64 n, .string t, .string x, .slice p q.length cap]] w fun e w' => e = .returned (.tuple #[.int .i64 0, .int .i64 4]) ∧ Below w.heap.size w w' := by
  subst hm
  obtain ⟨W0, hW0⟩ : ∃ W0, W0 = w.alloc (.cells #[.int .i64 k, .bool b, .int .i64 n, .string t, .string x, .slice p q.length cap] 26) := ⟨_, rfl⟩
  have S : Six W0 w.heap.size k b n t x p q.length cap := by rw [hW0]; exact six_new _ rfl
  have b0 : Below w.heap.size w W0 := by rw [hW0]; exact below1 _ _
  have f0 := S.c0
  have f1 := S.c1
  have f3 := S.c3
  have H0 := Lib.hid hW0
  clear hW0
  go_enter Tryz.func11, Tryz.ntmps11
  go_wp2_with (first
    | ((try rw [← H0.out]); (with_reducible refine wpList_load6 (.tmp 1) w.heap.size S ?_ ?_ ?_ ?_); rfl; rfl; rfl)
    | ((try rw [← H0.out]); (with_reducible refine wpList_load6g (.tmp 1) w.heap.size S ?_ ?_ ?_ ?_); rfl; rfl; rfl)
    | (go_at_call 21; (try rw [← H0.out]); (with_reducible refine (hc _ b0).mono ?_); rintro e w' ⟨rfl, hb⟩; replace S := S.below hb; replace b0 := below_any b0 hb b0.size; have f0 := S.c0; have f1 := S.c1; have f3 := S.c3; clear hb))
  go_ret2
  exact ⟨rfl, b0⟩

set_option maxRecDepth 20000 in
set_option maxHeartbeats 3200000 in
theorem otBad (k : Int) (b : Bool) (n : Int) (t x : ByteArray) (q : List Val) (p : Option Addr) (cap : Nat) (w : World) (m : Bool) (hc : ∀ W, Below w.heap.size w W → Calls Tryz.prog 21 #[.agg #[.int .i64 k, .bool b, .int .i64 n, .string t, .string x, .slice p q.length cap]] W fun e w' => e = .returned (.bool m) ∧ Below W.heap.size W w') (hm : m = false) :
    Calls Tryz.prog 10 #[.agg #[.int .i64 k, .bool b, .int .i64 n, .string t, .string x, .slice p q.length cap]] w fun e w' => e = .returned (.tuple #[.int .i64 2, .int .i64 1]) ∧ Below w.heap.size w w' := by
  subst hm
  obtain ⟨W0, hW0⟩ : ∃ W0, W0 = w.alloc (.cells #[.int .i64 k, .bool b, .int .i64 n, .string t, .string x, .slice p q.length cap] 26) := ⟨_, rfl⟩
  have S : Six W0 w.heap.size k b n t x p q.length cap := by rw [hW0]; exact six_new _ rfl
  have b0 : Below w.heap.size w W0 := by rw [hW0]; exact below1 _ _
  have f0 := S.c0
  have f1 := S.c1
  have f3 := S.c3
  have H0 := Lib.hid hW0
  clear hW0
  go_enter Tryz.func10, Tryz.ntmps10
  go_wp2_with (first
    | ((try rw [← H0.out]); (with_reducible refine wpList_load6 (.tmp 1) w.heap.size S ?_ ?_ ?_ ?_); rfl; rfl; rfl)
    | ((try rw [← H0.out]); (with_reducible refine wpList_load6g (.tmp 1) w.heap.size S ?_ ?_ ?_ ?_); rfl; rfl; rfl)
    | (go_at_call 21; (try rw [← H0.out]); (with_reducible refine (hc _ b0).mono ?_); rintro e w' ⟨rfl, hb⟩; replace S := S.below hb; replace b0 := below_any b0 hb b0.size; have f0 := S.c0; have f1 := S.c1; have f3 := S.c3; clear hb))
  go_ret2
  exact ⟨rfl, b0⟩

set_option maxRecDepth 20000 in
set_option maxHeartbeats 3200000 in
theorem otBool (b : Bool) (n : Int) (t x : ByteArray) (q : List Val) (p : Option Addr) (cap : Nat) (w : World) (m : Bool) (hc : ∀ W, Below w.heap.size w W → Calls Tryz.prog 21 #[.agg #[.int .i64 1, .bool b, .int .i64 n, .string t, .string x, .slice p q.length cap]] W fun e w' => e = .returned (.bool m) ∧ Below W.heap.size W w') (hm : m = true) :
    Calls Tryz.prog 10 #[.agg #[.int .i64 1, .bool b, .int .i64 n, .string t, .string x, .slice p q.length cap]] w fun e w' => e = .returned (.tuple #[.int .i64 (tI b), .int .i64 0]) ∧ Below w.heap.size w w' := by
  subst hm
  obtain ⟨W0, hW0⟩ : ∃ W0, W0 = w.alloc (.cells #[.int .i64 1, .bool b, .int .i64 n, .string t, .string x, .slice p q.length cap] 26) := ⟨_, rfl⟩
  have S : Six W0 w.heap.size 1 b n t x p q.length cap := by rw [hW0]; exact six_new _ rfl
  have b0 : Below w.heap.size w W0 := by rw [hW0]; exact below1 _ _
  have f0 := S.c0
  have f1 := S.c1
  have f3 := S.c3
  have H0 := Lib.hid hW0
  clear hW0
  go_enter Tryz.func10, Tryz.ntmps10
  go_wp2_with (first
    | ((try rw [← H0.out]); (with_reducible refine wpList_load6 (.tmp 1) w.heap.size S ?_ ?_ ?_ ?_); rfl; rfl; rfl)
    | ((try rw [← H0.out]); (with_reducible refine wpList_load6g (.tmp 1) w.heap.size S ?_ ?_ ?_ ?_); rfl; rfl; rfl)
    | (go_at_call 21; (try rw [← H0.out]); (with_reducible refine (hc _ b0).mono ?_); rintro e w' ⟨rfl, hb⟩; replace S := S.below hb; replace b0 := below_any b0 hb b0.size; have f0 := S.c0; have f1 := S.c1; have f3 := S.c3; clear hb)
    | (go_at_call 22; (with_reducible refine (truthOfC _ _).mono ?_); rintro e w' ⟨rfl, rfl⟩))
  go_ret2
  exact ⟨rfl, b0⟩

set_option maxRecDepth 20000 in
set_option maxHeartbeats 3200000 in
theorem otText (b : Bool) (n : Int) (t x : ByteArray) (q : List Val) (p : Option Addr) (cap : Nat) (w : World) (m : Bool) (hc : ∀ W, Below w.heap.size w W → Calls Tryz.prog 21 #[.agg #[.int .i64 4, .bool b, .int .i64 n, .string t, .string x, .slice p q.length cap]] W fun e w' => e = .returned (.bool m) ∧ Below W.heap.size W w') (hm : m = true) :
    Calls Tryz.prog 10 #[.agg #[.int .i64 4, .bool b, .int .i64 n, .string t, .string x, .slice p q.length cap]] w fun e w' => e = .returned (.tuple #[.int .i64 (tI (!t.toList.isEmpty)), .int .i64 0]) ∧ Below w.heap.size w w' := by
  subst hm
  obtain ⟨W0, hW0⟩ : ∃ W0, W0 = w.alloc (.cells #[.int .i64 4, .bool b, .int .i64 n, .string t, .string x, .slice p q.length cap] 26) := ⟨_, rfl⟩
  have S : Six W0 w.heap.size 4 b n t x p q.length cap := by rw [hW0]; exact six_new _ rfl
  have b0 : Below w.heap.size w W0 := by rw [hW0]; exact below1 _ _
  have f0 := S.c0
  have f1 := S.c1
  have f3 := S.c3
  have H0 := Lib.hid hW0
  clear hW0
  go_enter Tryz.func10, Tryz.ntmps10
  go_wp2_with (first
    | ((try rw [← H0.out]); (with_reducible refine wpList_load6 (.tmp 1) w.heap.size S ?_ ?_ ?_ ?_); rfl; rfl; rfl)
    | ((try rw [← H0.out]); (with_reducible refine wpList_load6g (.tmp 1) w.heap.size S ?_ ?_ ?_ ?_); rfl; rfl; rfl)
    | (go_at_call 21; (try rw [← H0.out]); (with_reducible refine (hc _ b0).mono ?_); rintro e w' ⟨rfl, hb⟩; replace S := S.below hb; replace b0 := below_any b0 hb b0.size; have f0 := S.c0; have f1 := S.c1; have f3 := S.c3; clear hb)
    | (go_at_call 22; (with_reducible refine (truthOfC _ _).mono ?_); rintro e w' ⟨rfl, rfl⟩))
  go_ret2
  exact ⟨rfl, b0⟩

set_option maxRecDepth 20000 in
set_option maxHeartbeats 3200000 in
theorem otNum2 (b : Bool) (n : Int) (t x : ByteArray) (q : List Val) (p : Option Addr) (cap : Nat) (w : World) (m : Bool) (hc : ∀ W, Below w.heap.size w W → Calls Tryz.prog 21 #[.agg #[.int .i64 2, .bool b, .int .i64 n, .string t, .string x, .slice p q.length cap]] W fun e w' => e = .returned (.bool m) ∧ Below W.heap.size W w') (hm : m = true) (r : Int) (hq : ∀ W, Below w.heap.size w W → Calls Tryz.prog 23 #[.int .i64 1, .agg #[.int .i64 2, .bool b, .int .i64 n, .string t, .string x, .slice p q.length cap], .agg #[.int .i64 2, .bool false, .int .i64 0, .string ⟨#[]⟩, .string ⟨#[]⟩, .slice none 0 0]] W fun e w' => e = .returned (.int .i64 r) ∧ Below W.heap.size W w') :
    Calls Tryz.prog 10 #[.agg #[.int .i64 2, .bool b, .int .i64 n, .string t, .string x, .slice p q.length cap]] w fun e w' => e = .returned (.tuple #[.int .i64 (notT (tr r)), .int .i64 0]) ∧ Below w.heap.size w w' := by
  subst hm
  obtain ⟨W0, hW0⟩ : ∃ W0, W0 = w.alloc (.cells #[.int .i64 2, .bool b, .int .i64 n, .string t, .string x, .slice p q.length cap] 26) := ⟨_, rfl⟩
  have S : Six W0 w.heap.size 2 b n t x p q.length cap := by rw [hW0]; exact six_new _ rfl
  have b0 : Below w.heap.size w W0 := by rw [hW0]; exact below1 _ _
  have f0 := S.c0
  have f1 := S.c1
  have f3 := S.c3
  have H0 := Lib.hid hW0
  clear hW0
  go_enter Tryz.func10, Tryz.ntmps10
  go_wp2_with (first
    | ((try rw [← H0.out]); (with_reducible refine wpList_load6 (.tmp 1) w.heap.size S ?_ ?_ ?_ ?_); rfl; rfl; rfl)
    | ((try rw [← H0.out]); (with_reducible refine wpList_load6g (.tmp 1) w.heap.size S ?_ ?_ ?_ ?_); rfl; rfl; rfl)
    | (go_at_call 21; (try rw [← H0.out]); (with_reducible refine (hc _ b0).mono ?_); rintro e w' ⟨rfl, hb⟩; replace S := S.below hb; replace b0 := below_any b0 hb b0.size; have f0 := S.c0; have f1 := S.c1; have f3 := S.c3; clear hb)
    | (go_at_call 23; (try rw [← H0.out]); (with_reducible refine (hq _ b0).mono ?_); rintro e w' ⟨rfl, hb⟩; replace S := S.below hb; replace b0 := below_any b0 hb b0.size; have f0 := S.c0; have f1 := S.c1; have f3 := S.c3; clear hb)
    | (go_at_call 19; (try rw [← H0.out]); (with_reducible refine (notAt r _).mono ?_); rintro e w' ⟨rfl, hb⟩; replace S := S.below hb; replace b0 := below_any b0 hb b0.size; have f0 := S.c0; have f1 := S.c1; have f3 := S.c3; clear hb))
  go_ret2
  exact ⟨rfl, b0⟩

set_option maxRecDepth 20000 in
set_option maxHeartbeats 3200000 in
theorem otNum3 (b : Bool) (n : Int) (t x : ByteArray) (q : List Val) (p : Option Addr) (cap : Nat) (w : World) (m : Bool) (hc : ∀ W, Below w.heap.size w W → Calls Tryz.prog 21 #[.agg #[.int .i64 3, .bool b, .int .i64 n, .string t, .string x, .slice p q.length cap]] W fun e w' => e = .returned (.bool m) ∧ Below W.heap.size W w') (hm : m = true) (r : Int) (hq : ∀ W, Below w.heap.size w W → Calls Tryz.prog 23 #[.int .i64 1, .agg #[.int .i64 3, .bool b, .int .i64 n, .string t, .string x, .slice p q.length cap], .agg #[.int .i64 2, .bool false, .int .i64 0, .string ⟨#[]⟩, .string ⟨#[]⟩, .slice none 0 0]] W fun e w' => e = .returned (.int .i64 r) ∧ Below W.heap.size W w') :
    Calls Tryz.prog 10 #[.agg #[.int .i64 3, .bool b, .int .i64 n, .string t, .string x, .slice p q.length cap]] w fun e w' => e = .returned (.tuple #[.int .i64 (notT (tr r)), .int .i64 0]) ∧ Below w.heap.size w w' := by
  subst hm
  obtain ⟨W0, hW0⟩ : ∃ W0, W0 = w.alloc (.cells #[.int .i64 3, .bool b, .int .i64 n, .string t, .string x, .slice p q.length cap] 26) := ⟨_, rfl⟩
  have S : Six W0 w.heap.size 3 b n t x p q.length cap := by rw [hW0]; exact six_new _ rfl
  have b0 : Below w.heap.size w W0 := by rw [hW0]; exact below1 _ _
  have f0 := S.c0
  have f1 := S.c1
  have f3 := S.c3
  have H0 := Lib.hid hW0
  clear hW0
  go_enter Tryz.func10, Tryz.ntmps10
  go_wp2_with (first
    | ((try rw [← H0.out]); (with_reducible refine wpList_load6 (.tmp 1) w.heap.size S ?_ ?_ ?_ ?_); rfl; rfl; rfl)
    | ((try rw [← H0.out]); (with_reducible refine wpList_load6g (.tmp 1) w.heap.size S ?_ ?_ ?_ ?_); rfl; rfl; rfl)
    | (go_at_call 21; (try rw [← H0.out]); (with_reducible refine (hc _ b0).mono ?_); rintro e w' ⟨rfl, hb⟩; replace S := S.below hb; replace b0 := below_any b0 hb b0.size; have f0 := S.c0; have f1 := S.c1; have f3 := S.c3; clear hb)
    | (go_at_call 23; (try rw [← H0.out]); (with_reducible refine (hq _ b0).mono ?_); rintro e w' ⟨rfl, hb⟩; replace S := S.below hb; replace b0 := below_any b0 hb b0.size; have f0 := S.c0; have f1 := S.c1; have f3 := S.c3; clear hb)
    | (go_at_call 19; (try rw [← H0.out]); (with_reducible refine (notAt r _).mono ?_); rintro e w' ⟨rfl, hb⟩; replace S := S.below hb; replace b0 := below_any b0 hb b0.size; have f0 := S.c0; have f1 := S.c1; have f3 := S.c3; clear hb))
  go_ret2
  exact ⟨rfl, b0⟩

set_option maxRecDepth 20000 in
set_option maxHeartbeats 3200000 in
theorem otNull (b : Bool) (n : Int) (t x : ByteArray) (q : List Val) (p : Option Addr) (cap : Nat) (w : World) (m : Bool) (hc : ∀ W, Below w.heap.size w W → Calls Tryz.prog 21 #[.agg #[.int .i64 0, .bool b, .int .i64 n, .string t, .string x, .slice p q.length cap]] W fun e w' => e = .returned (.bool m) ∧ Below W.heap.size W w') (hm : m = true) :
    Calls Tryz.prog 10 #[.agg #[.int .i64 0, .bool b, .int .i64 n, .string t, .string x, .slice p q.length cap]] w fun e w' => e = .returned (.tuple #[.int .i64 2, .int .i64 5]) ∧ Below w.heap.size w w' := by
  subst hm
  obtain ⟨W0, hW0⟩ : ∃ W0, W0 = w.alloc (.cells #[.int .i64 0, .bool b, .int .i64 n, .string t, .string x, .slice p q.length cap] 26) := ⟨_, rfl⟩
  have S : Six W0 w.heap.size 0 b n t x p q.length cap := by rw [hW0]; exact six_new _ rfl
  have b0 : Below w.heap.size w W0 := by rw [hW0]; exact below1 _ _
  have f0 := S.c0
  have f1 := S.c1
  have f3 := S.c3
  have H0 := Lib.hid hW0
  clear hW0
  go_enter Tryz.func10, Tryz.ntmps10
  go_wp2_with (first
    | ((try rw [← H0.out]); (with_reducible refine wpList_load6 (.tmp 1) w.heap.size S ?_ ?_ ?_ ?_); rfl; rfl; rfl)
    | ((try rw [← H0.out]); (with_reducible refine wpList_load6g (.tmp 1) w.heap.size S ?_ ?_ ?_ ?_); rfl; rfl; rfl)
    | (go_at_call 21; (try rw [← H0.out]); (with_reducible refine (hc _ b0).mono ?_); rintro e w' ⟨rfl, hb⟩; replace S := S.below hb; replace b0 := below_any b0 hb b0.size; have f0 := S.c0; have f1 := S.c1; have f3 := S.c3; clear hb))
  go_ret2
  exact ⟨rfl, b0⟩

set_option maxRecDepth 20000 in
set_option maxHeartbeats 3200000 in
theorem otElse (k : Int) (b : Bool) (n : Int) (t x : ByteArray) (q : List Val) (p : Option Addr) (cap : Nat) (w : World) (m : Bool) (hc : ∀ W, Below w.heap.size w W → Calls Tryz.prog 21 #[.agg #[.int .i64 k, .bool b, .int .i64 n, .string t, .string x, .slice p q.length cap]] W fun e w' => e = .returned (.bool m) ∧ Below W.heap.size W w') (hm : m = true) (h1 : (k == 1) = false) (h4 : (k == 4) = false) (h2 : (k == 2) = false) (h3 : (k == 3) = false) (h0 : (k == 0) = false) :
    Calls Tryz.prog 10 #[.agg #[.int .i64 k, .bool b, .int .i64 n, .string t, .string x, .slice p q.length cap]] w fun e w' => e = .returned (.tuple #[.int .i64 2, .int .i64 4]) ∧ Below w.heap.size w w' := by
  subst hm
  obtain ⟨W0, hW0⟩ : ∃ W0, W0 = w.alloc (.cells #[.int .i64 k, .bool b, .int .i64 n, .string t, .string x, .slice p q.length cap] 26) := ⟨_, rfl⟩
  have S : Six W0 w.heap.size k b n t x p q.length cap := by rw [hW0]; exact six_new _ rfl
  have b0 : Below w.heap.size w W0 := by rw [hW0]; exact below1 _ _
  have f0 := S.c0
  have f1 := S.c1
  have f3 := S.c3
  have H0 := Lib.hid hW0
  clear hW0
  go_enter Tryz.func10, Tryz.ntmps10
  go_wp2_with (first
    | ((try rw [← H0.out]); (with_reducible refine wpList_load6 (.tmp 1) w.heap.size S ?_ ?_ ?_ ?_); rfl; rfl; rfl)
    | ((try rw [← H0.out]); (with_reducible refine wpList_load6g (.tmp 1) w.heap.size S ?_ ?_ ?_ ?_); rfl; rfl; rfl)
    | (go_at_call 21; (try rw [← H0.out]); (with_reducible refine (hc _ b0).mono ?_); rintro e w' ⟨rfl, hb⟩; replace S := S.below hb; replace b0 := below_any b0 hb b0.size; have f0 := S.c0; have f1 := S.c1; have f3 := S.c3; clear hb))
  go_ret2
  exact ⟨rfl, b0⟩

set_option maxRecDepth 20000 in
set_option maxHeartbeats 3200000 in
theorem ofS (k : Int) (b : Bool) (n : Int) (t x : ByteArray) (q : List Val) (p : Option Addr) (cap : Nat) (w : World) (a e9 : Int) (hc : ∀ W, Below w.heap.size w W → Calls Tryz.prog 10 #[.agg #[.int .i64 k, .bool b, .int .i64 n, .string t, .string x, .slice p q.length cap]] W fun e w' => e = .returned (.tuple #[.int .i64 a, .int .i64 e9]) ∧ Below W.heap.size W w') :
    Calls Tryz.prog 4 #[.int .i64 1, .agg #[.int .i64 k, .bool b, .int .i64 n, .string t, .string x, .slice p q.length cap]] w fun e w' => e = .returned (.tuple #[.int .i64 a, .int .i64 e9]) ∧ Below w.heap.size w w' := by
  obtain ⟨W0, hW0⟩ : ∃ W0, W0 = w.alloc (.cells #[.int .i64 k, .bool b, .int .i64 n, .string t, .string x, .slice p q.length cap] 26) := ⟨_, rfl⟩
  have S : Six W0 w.heap.size k b n t x p q.length cap := by rw [hW0]; exact six_new _ rfl
  have b0 : Below w.heap.size w W0 := by rw [hW0]; exact below1 _ _
  have f0 := S.c0
  have f1 := S.c1
  have f3 := S.c3
  have H0 := Lib.hid hW0
  clear hW0
  go_enter Tryz.func4, Tryz.ntmps4
  go_wp2_with (first
    | ((try rw [← H0.out]); (with_reducible refine wpList_load6 (.tmp 3) w.heap.size S ?_ ?_ ?_ ?_); rfl; rfl; rfl)
    | ((try rw [← H0.out]); (with_reducible refine wpList_load6g (.tmp 3) w.heap.size S ?_ ?_ ?_ ?_); rfl; rfl; rfl)
    | (go_at_call 10; (try rw [← H0.out]); (with_reducible refine (hc _ b0).mono ?_); rintro e w' ⟨rfl, hb⟩; replace S := S.below hb; replace b0 := below_any b0 hb b0.size; have f0 := S.c0; have f1 := S.c1; have f3 := S.c3; clear hb))
  go_ret2
  exact ⟨rfl, b0⟩

set_option maxRecDepth 20000 in
set_option maxHeartbeats 3200000 in
theorem ofC (k : Int) (b : Bool) (n : Int) (t x : ByteArray) (q : List Val) (p : Option Addr) (cap : Nat) (w : World) (lang : Int) (hl : (lang == 1) = false) (a e9 : Int) (hc : ∀ W, Below w.heap.size w W → Calls Tryz.prog 11 #[.agg #[.int .i64 k, .bool b, .int .i64 n, .string t, .string x, .slice p q.length cap]] W fun e w' => e = .returned (.tuple #[.int .i64 a, .int .i64 e9]) ∧ Below W.heap.size W w') :
    Calls Tryz.prog 4 #[.int .i64 lang, .agg #[.int .i64 k, .bool b, .int .i64 n, .string t, .string x, .slice p q.length cap]] w fun e w' => e = .returned (.tuple #[.int .i64 a, .int .i64 e9]) ∧ Below w.heap.size w w' := by
  obtain ⟨W0, hW0⟩ : ∃ W0, W0 = w.alloc (.cells #[.int .i64 k, .bool b, .int .i64 n, .string t, .string x, .slice p q.length cap] 26) := ⟨_, rfl⟩
  have S : Six W0 w.heap.size k b n t x p q.length cap := by rw [hW0]; exact six_new _ rfl
  have b0 : Below w.heap.size w W0 := by rw [hW0]; exact below1 _ _
  have f0 := S.c0
  have f1 := S.c1
  have f3 := S.c3
  have H0 := Lib.hid hW0
  clear hW0
  go_enter Tryz.func4, Tryz.ntmps4
  go_wp2_with (first
    | ((try rw [← H0.out]); (with_reducible refine wpList_load6 (.tmp 3) w.heap.size S ?_ ?_ ?_ ?_); rfl; rfl; rfl)
    | ((try rw [← H0.out]); (with_reducible refine wpList_load6g (.tmp 3) w.heap.size S ?_ ?_ ?_ ?_); rfl; rfl; rfl)
    | (go_at_call 11; (try rw [← H0.out]); (with_reducible refine (hc _ b0).mono ?_); rintro e w' ⟨rfl, hb⟩; replace S := S.below hb; replace b0 := below_any b0 hb b0.size; have f0 := S.c0; have f1 := S.c1; have f3 := S.c3; clear hb))
  go_ret2
  exact ⟨rfl, b0⟩
end Go.Proofs.YtdnijfkiebpnpaaGreatDoor

/- wakes: a sum and a quotient. -/
namespace Go.Proofs.YtdnijfkiebpnpaaGreatDoor
open Go.RowKit

theorem chk01 : chk [48, 46, 49] = true := by kernel_rfl
theorem chk02 : chk [48, 46, 50] = true := by kernel_rfl
theorem chk10 : chk [49, 46, 48] = true := by kernel_rfl
theorem chk30 : chk [51, 46, 48] = true := by kernel_rfl
theorem sum03 : txt (dval [48, 46, 49] + dval [48, 46, 50]) = some [48, 46, 51] := by kernel_rfl
theorem quo03 : txt (dquo [49, 46, 48] [51, 46, 48]) = some [48, 46, 51, 51, 51, 51, 51, 51, 51, 51, 51, 51, 51, 51, 51, 51, 51, 51, 51, 51, 51, 51] := by kernel_rfl
theorem amt30 : damt [51, 46, 48] ≠ 0 := by decide +kernel
theorem int7 : Lib.itoa (-7) = [45, 55] := by kernel_rfl

end Go.Proofs.YtdnijfkiebpnpaaGreatDoor

/- What a law of texts keeps from call to call. -/
namespace Go.Proofs.YtdnijfkiebpnpaaGreatDoor
open Go.RowKit

theorem readDec (s : ByteArray) (w : World) (hG : Gd w) (hs : s.size < 4294967281) (h : chk s.data.toList = true) :
    Calls Tryz.prog 59 #[.string s] w fun e w' => e = .returned (.tuple #[.string s, .int .i64 0]) ∧ Below w.heap.size w w' := by
  have h' : readP s.data.toList = some (some s.data.toList) := by simpa [chk] using h
  have := readAt s w hG hs
  rw [h'] at this
  exact this
theorem checkB (s : ByteArray) (d : Bool) (w : World) (hG : Gd w) (hs : s.size < 4294967281) (h : Hid (d = chk s.data.toList)) :
    Calls Tryz.prog 43 #[.string s] w fun e w' => e = .returned (.bool d) ∧ Below w.heap.size w w' := by
  rw [h.out]; exact checkAt s w hG hs

/-- The strings of the argument, in memory. -/
def Strs (w : World) (b off n : Nat) (S : Nat → ByteArray) : Prop := ∀ i, i < n → w.cell? ⟨b, off + i, none⟩ = some (.string (S i))
theorem Strs.below {w w' : World} {b off n : Nat} {S : Nat → ByteArray} (h : Strs w b off n S) (k : Below w.heap.size w w') : Strs w' b off n S := fun i hi =>
  (k.cell (p := ⟨b, off + i, none⟩) (World.block_lt_of_cell? w _ (h i hi))).trans (h i hi)

theorem chk_len {l : List UInt8} (h : chk l = true) : l.length ≤ 62 := by
  obtain ⟨n, a, b, hsp, ha, hb, la, lb, hw, _⟩ := chk_parts l h
  unfold wr at hw
  simp only at hw
  split at hw
  · cases hw
  · rename_i hl
    have h1 : (orN (Lib.trimLeftB a 48)).length ≤ 40 := orN_len (by omega) (by omega)
    have h2 : (orN (Lib.trimRightB b 48)).length ≤ 20 := orN_len (by omega) (by omega)
    rw [← Option.some.inj hw]
    simp only [List.length_append, List.length_cons]
    split <;> simp <;> omega
theorem said_ok {z : Int} {x : ByteArray} {k : Int} (h : said (txt z) = .tuple #[.string x, .int .i64 k]) (hk : k = 0) : ∃ l, txt z = some l ∧ x = bs l := by
  cases e : txt z with
  | none => rw [e, hk] at h; simp [said] at h
  | some l => rw [e] at h; simp [said] at h; exact ⟨l, rfl, h.1.symm⟩
theorem said_k {z : Int} {x : ByteArray} {k : Int} (h : said (txt z) = .tuple #[.string x, .int .i64 k]) : k = 0 ∨ k = 2 := by
  cases e : txt z with
  | none => rw [e] at h; simp [said] at h; exact .inr h.2.symm
  | some l => rw [e] at h; simp [said] at h; exact .inl h.2.symm

/-- What holds at every call of a law's round. -/
structure Inv (w : World) (b off n cap : Nat) (S : Nat → ByteArray) (wr : World) : Prop where
  cell : wr.cell? ⟨w.heap.size, 0, none⟩ = some (.slice (some ⟨b, off, none⟩) n cap)
  lt : w.heap.size < wr.heap.size
  bel : Below w.heap.size w wr
  g : Gd wr
  t : Tab wr
  s : Strs wr b off n S
theorem Inv.step {w wr w' : World} {b off n cap : Nat} {S : Nat → ByteArray} (h : Inv w b off n cap S wr) (k : Below wr.heap.size wr w') : Inv w b off n cap S w' :=
  ⟨(k.cell (p := ⟨w.heap.size, 0, none⟩) h.lt).trans h.cell, Nat.lt_of_lt_of_le h.lt k.size, below_any h.bel k (Nat.le_of_lt h.lt), h.g.below k, h.t.below k, h.s.below k⟩
theorem Inv.start {w : World} {b off n cap : Nat} {S : Nat → ByteArray} (v2 : Value) (hG : Gd w) (hT : Tab w) (hS : Strs w b off n S) :
    Inv w b off n cap S (w.alloc (.cells #[.slice (some ⟨b, off, none⟩) n cap, v2] 25)) := by
  have hb0 : Below w.heap.size w (w.alloc (.cells #[.slice (some ⟨b, off, none⟩) n cap, v2] 25)) := (Below.refl _ _).alloc (Nat.le_refl _) _
  exact ⟨cell_of (heap_new _ _ rfl) _ rfl, by simp, hb0, hG.below hb0, hT.below hb0, hS.below hb0⟩
end Go.Proofs.YtdnijfkiebpnpaaGreatDoor

/- The document's own digits: lists of digits in memory, the lowest first: one digit, all noughts, which is greater. -/
namespace Go.Proofs.YtdnijfkiebpnpaaGreatDoor
open Go.RowKit

/-- The number that the first n digits say, the lowest first. -/
def vT : Nat → (Nat → Nat) → Nat
  | 0, _ => 0
  | n + 1, f => vT n f + f n * 10 ^ n
theorem vT_lt (f : Nat → Nat) (h : ∀ j, f j ≤ 9) : ∀ n, vT n f < 10 ^ n
  | 0 => by simp [vT]
  | n + 1 => by
    have := vT_lt f h n
    have h2 : f n * 10 ^ n ≤ 9 * 10 ^ n := Nat.mul_le_mul_right _ (h n)
    show vT n f + f n * 10 ^ n < 10 ^ (n + 1)
    rw [Nat.pow_succ]; omega
theorem vT_eq (f g : Nat → Nat) : ∀ n, (∀ j, j < n → f j = g j) → vT n f = vT n g
  | 0, _ => rfl
  | n + 1, h => by
    show vT n f + f n * 10 ^ n = vT n g + g n * 10 ^ n
    rw [vT_eq f g n (fun j hj => h j (by omega)), h n (by omega)]
theorem vT_cmp (f g : Nat → Nat) (hf : ∀ j, f j ≤ 9) (k : Nat) (hk : f k < g k) : ∀ n, k < n → (∀ j, k < j → j < n → f j = g j) → vT n f < vT n g
  | n + 1, h, e => by
    show vT n f + f n * 10 ^ n < vT n g + g n * 10 ^ n
    by_cases hn : k = n
    · subst hn
      have h1 := vT_lt f hf k
      have h2 : (f k + 1) * 10 ^ k ≤ g k * 10 ^ k := Nat.mul_le_mul_right _ hk
      rw [Nat.add_mul, Nat.one_mul] at h2
      omega
    · have := vT_cmp f g hf k hk n (by omega) (fun j a b => e j a (by omega))
      rw [e n (by omega) (by omega)]
      omega
theorem vT_pad (f : Nat → Nat) (n : Nat) (h : ∀ j, n ≤ j → f j = 0) : ∀ m, n ≤ m → vT m f = vT n f
  | 0, hm => by rw [Nat.le_zero.1 hm]
  | m + 1, hm => by
    by_cases e : n = m + 1
    · rw [e]
    · show vT m f + f m * 10 ^ m = _
      rw [vT_pad f n h m (by omega), h m (by omega)]; simp

/-- Digit j; 0 beyond. -/
def dig (ds : List Nat) (j : Nat) : Nat := ds.getD j 0
theorem dig_out {ds : List Nat} {j : Nat} (h : ds.length ≤ j) : dig ds j = 0 := by simp [dig, List.getD, h]
/-- The number that the digits say. -/
def val10 (ds : List Nat) : Nat := vT ds.length (dig ds)
/-- Digits, each of them. -/
def Small (ds : List Nat) : Prop := ∀ j, dig ds j ≤ 9
theorem val10_pad (ds : List Nat) {m : Nat} (h : ds.length ≤ m) : vT m (dig ds) = val10 ds := vT_pad _ _ (fun _ hj => dig_out hj) m h

/-- Digits in memory. -/
def Ints (w : World) (v : Value) (ds : List Nat) : Prop :=
  (v = .slice none 0 0 ∧ ds = []) ∨ ∃ b off cap, v = .slice (some ⟨b, off, none⟩) ds.length cap ∧ (∀ i, i < ds.length → w.cell? ⟨b, off + i, none⟩ = some (.int .i64 (dig ds i))) ∧ ∃ cs, w.heap[b]? = some (.cells cs 3 (0, 0))
theorem Ints.below {w w' : World} {v : Value} {ds : List Nat} (h : Ints w v ds) (k : Below w.heap.size w w') : Ints w' v ds := by
  rcases h with h | ⟨b, off, cap, e, hc, cs, hk⟩
  · exact .inl h
  · exact .inr ⟨b, off, cap, e, fun i hi => (k.cell (p := ⟨b, off + i, none⟩) (World.block_lt_of_cell? w _ (hc i hi))).trans (hc i hi), cs, (k.block b (lt_of_heap hk)).trans hk⟩

/-- A block of another type may be written. -/
theorem Ints.only {w w' : World} {v : Value} {ds : List Nat} {g : Nat} {cs : Array Value} {t : TypeId} (h : Ints w v ds) (k : Only g w w') (hg : w.heap[g]? = some (.cells cs t (0, 0))) (ht : t ≠ 3) : Ints w' v ds := by
  rcases h with h | ⟨b, off, cap, e, hc, cs2, hk⟩
  · exact .inl h
  · have hne : b ≠ g := fun x => by
      rw [x, hg] at hk
      injection hk with hk
      injection hk with _ h2 _
      exact ht h2
    have hb := (k.block b (lt_of_heap hk) hne)
    exact .inr ⟨b, off, cap, e, fun i hi => (World.cell?_of_block (w := w) (a := ⟨b, off + i, none⟩) hb).trans (hc i hi), cs2, hb.trans hk⟩

theorem digitRefAt (c : Nat) (w : World) (hc : c < 256) : Calls Tryz.prog 56 #[.int .u8 c] w fun e w' => e = .returned (.bool (decide (48 ≤ c ∧ c ≤ 57))) ∧ w = w' := by
  by_cases h1 : (48 : Int) ≤ c
  · by_cases h2 : (c : Int) ≤ 57
    · have : decide (48 ≤ c ∧ c ≤ 57) = true := by simp; omega
      rw [this]
      go_enter Tryz.func56, Tryz.ntmps56
      go_wp2
      go_ret
      exact ⟨rfl, rfl⟩
    · have : decide (48 ≤ c ∧ c ≤ 57) = false := by simp; omega
      rw [this]
      go_enter Tryz.func56, Tryz.ntmps56
      go_wp2
      go_ret
      exact ⟨by simp, rfl⟩
  · have : decide (48 ≤ c ∧ c ≤ 57) = false := by simp; omega
    rw [this]
    go_enter Tryz.func56, Tryz.ntmps56
    go_wp2
    go_ret
    exact ⟨by simp, rfl⟩

/-- What 'at' answers. -/
def dgI (ds : List Nat) (i : Int) : Nat := if i < 0 then 0 else dig ds i.toNat

theorem refAt (v : Value) (ds : List Nat) (i : Int) (w : World) (h : Ints w v ds) : Calls Tryz.prog 57 #[v, .int .i64 i] w fun e w' => e = .returned (.int .i64 (dgI ds i)) ∧ w = w' := by
  unfold dgI
  by_cases h0 : i < 0
  · rw [if_pos h0]
    rcases h with ⟨rfl, rfl⟩ | ⟨b, off, cap, rfl, hc, hty⟩
    · go_enter Tryz.func57, Tryz.ntmps57
      go_wp2
      go_ret
      exact ⟨rfl, rfl⟩
    · clear hc
      go_enter Tryz.func57, Tryz.ntmps57
      go_wp2
      go_ret
      exact ⟨rfl, rfl⟩
  · rw [if_neg h0]
    obtain ⟨k, rfl⟩ := Int.eq_ofNat_of_zero_le (Int.not_lt.1 h0)
    rw [show ((k : Int)).toNat = k by omega]
    rcases h with ⟨rfl, rfl⟩ | ⟨b, off, cap, rfl, hc, hty⟩
    · rw [dig_out (by simp)]
      have hk : (k : Int) ≥ 0 := by omega
      go_enter Tryz.func57, Tryz.ntmps57
      go_wp2
      go_ret
      exact ⟨rfl, rfl⟩
    · by_cases hl : (ds.length : Int) ≤ k
      · rw [dig_out (by omega)]
        clear hc
        generalize ds.length = n at *
        go_enter Tryz.func57, Tryz.ntmps57
        go_wp2
        go_ret
        exact ⟨rfl, rfl⟩
      · have c1 := hc k (by omega)
        clear hc
        generalize dig ds k = x at *
        generalize ds.length = n at *
        go_enter Tryz.func57, Tryz.ntmps57
        go_wp2
        go_ret
        exact ⟨rfl, rfl⟩
end Go.Proofs.YtdnijfkiebpnpaaGreatDoor

/- The document's own digits: all noughts, which is greater. -/
namespace Go.Proofs.YtdnijfkiebpnpaaGreatDoor
open Go.RowKit

theorem val10_zero (ds : List Nat) : val10 ds = 0 ↔ ∀ j, j < ds.length → dig ds j = 0 := by
  unfold val10
  generalize dig ds = f
  generalize ds.length = n
  induction n with
  | zero => simp [vT]
  | succ n ih =>
    show vT n f + f n * 10 ^ n = 0 ↔ _
    have hp : 0 < 10 ^ n := Nat.pow_pos (show 0 < 10 by decide)
    constructor
    · intro h j hj
      have h1 : vT n f = 0 := by omega
      have h2 : f n * 10 ^ n = 0 := by omega
      rcases Nat.lt_or_ge j n with h3 | h3
      · exact ih.1 h1 j h3
      · obtain rfl : j = n := by omega
        rcases Nat.mul_eq_zero.1 h2 with h4 | h4
        · exact h4
        · omega
    · intro h
      rw [ih.2 (fun j hj => h j (by omega)), h n (by omega)]; simp

set_option maxHeartbeats 800000 in
theorem refZero (v : Value) (ds : List Nat) (w : World) (h : Ints w v ds) (hn : ds.length ≤ 9223372036854775807) (d : Bool) (hd : d = decide (val10 ds = 0)) : Calls Tryz.prog 27 #[v] w fun e w' => e = .returned (.bool d) ∧ w = w' := by
  rcases h with ⟨rfl, rfl⟩ | ⟨b, off, cap, rfl, hc, hty⟩
  · obtain rfl : d = true := by rw [hd]; rfl
    clear hd
    go_enter Tryz.func27, Tryz.ntmps27
    go_wp2_with fail
    go_loopg [3] 0 (fun gg s3 wr => gg = 0 ∧ s3 = .int .i64 0 ∧ wr = w)
    case atStart => exact ⟨rfl, rfl, rfl⟩
    case round =>
      obtain ⟨_, rfl, rfl⟩ := hrel
      go_wp2
      go_ret
      exact ⟨rfl, rfl⟩
  · have hz := val10_zero ds
    have HZ := Lib.hid hz
    have HD := Lib.hid hd
    clear hz hd
    go_enter Tryz.func27, Tryz.ntmps27
    go_wp2_with fail
    go_loopg [3] ds.length (fun gg s3 wr => ∃ i : Nat, i + gg = ds.length ∧ s3 = .int .i64 i ∧ wr = w ∧ Aside (∀ j, j < i → dig ds j = 0))
    case atStart => exact ⟨0, by omega, rfl, rfl, fun j hj => absurd hj (Nat.not_lt_zero j)⟩
    case round =>
      obtain ⟨i, hi, rfl, rfl, hall⟩ := hrel
      have HA := Lib.hid hall.out
      clear hall
      by_cases hlt : (i : Int) < ds.length
      · have c1 := hc i (by omega)
        by_cases hx : dig ds i = 0
        · rw [hx] at c1
          have hall2 : ∀ j, j < i + 1 → dig ds j = 0 := fun j hj => by
            rcases Nat.lt_or_ge j i with h3 | h3
            · exact HA.out j h3
            · rw [show j = i by omega]; exact hx
          have HA2 := Lib.hid hall2
          clear hall2 HA hc hx
          generalize ds.length = n at *
          go_wp2_with fail
          go_roundg (gk - 1)
          case measure => omega
          case rel => exact ⟨i + 1, by omega, by go_num, rfl, HA2.out⟩
        · obtain rfl : d = false := by
            rw [HD.out]
            have := mt HZ.out.1 (fun h => hx (h i (by omega)))
            simp [this]
          have hx1 : ¬ (dig ds i : Int) = 0 := by omega
          clear hc HA hx HD HZ
          generalize dig ds i = x at *
          generalize ds.length = n at *
          go_wp2_with fail
          go_ret
          exact ⟨rfl, rfl⟩
      · obtain rfl : d = true := by
          rw [HD.out]
          have := HZ.out.2 (fun j hj => HA.out j (by omega))
          simp [this]
        clear hc HA HD HZ
        generalize ds.length = n at *
        go_wp2_with fail
        go_ret
        exact ⟨rfl, rfl⟩
end Go.Proofs.YtdnijfkiebpnpaaGreatDoor

/- The document's own digits: which is greater. -/
namespace Go.Proofs.YtdnijfkiebpnpaaGreatDoor
open Go.RowKit

/-- The walk down stands at digit i: above it all are alike. -/
def Alike (xs ys : List Nat) (i : Int) : Prop := ∀ j : Nat, i < j → dig xs j = dig ys j
theorem dgI_nat (ds : List Nat) (k : Nat) : dgI ds k = dig ds k := by unfold dgI; rw [if_neg (by omega)]; congr 1
theorem alike_eq {xs ys : List Nat} {i : Int} (h : Alike xs ys i) (hi : i < 0) : cmpZ (val10 xs) (val10 ys) = 0 := by
  rw [cmpZ_zero]
  have e : vT (xs.length + ys.length) (dig xs) = vT (xs.length + ys.length) (dig ys) := vT_eq _ _ _ (fun j _ => h j (by omega))
  rw [val10_pad xs (by omega), val10_pad ys (by omega)] at e
  rw [e]
theorem alike_lt {xs ys : List Nat} {k : Nat} (hx : Small xs) (h : Alike xs ys k) (hk : dig xs k < dig ys k) : cmpZ (val10 xs) (val10 ys) = -1 := by
  have e := vT_cmp (dig xs) (dig ys) hx k hk (xs.length + ys.length + k + 1) (by omega) (fun j a _ => h j (by omega))
  rw [val10_pad xs (by omega), val10_pad ys (by omega)] at e
  unfold cmpZ; rw [if_pos (by omega)]
theorem alike_gt {xs ys : List Nat} {k : Nat} (hy : Small ys) (h : Alike xs ys k) (hk : dig ys k < dig xs k) : cmpZ (val10 xs) (val10 ys) = 1 := by
  have := alike_lt (xs := ys) (ys := xs) hy (fun j a => (h j a).symm) hk
  rw [cmpZ_swap] at this
  omega

theorem refAtB (v : Value) (ds : List Nat) (k : Nat) (x : Nat) (w : World) (h : Ints w v ds) (hx : Hid (x = dig ds k)) : Calls Tryz.prog 57 #[v, .int .i64 k] w fun e w' => e = .returned (.int .i64 x) ∧ w = w' :=
  (refAt v ds k w h).mono fun _ _ ⟨h1, h2⟩ => ⟨by rw [h1, dgI_nat, hx.out], h2⟩
theorem Ints.form {w : World} {v : Value} {ds : List Nat} (h : Ints w v ds) : ∃ p cap, v = .slice p ds.length cap := by
  rcases h with ⟨rfl, rfl⟩ | ⟨b, off, cap, rfl, _, _⟩
  · exact ⟨_, _, rfl⟩
  · exact ⟨_, _, rfl⟩

set_option maxHeartbeats 1600000 in
theorem refCompare (u v : Value) (xs ys : List Nat) (w : World) (hu : Ints w u xs) (hv : Ints w v ys) (hx : Small xs) (hy : Small ys) (lx : xs.length ≤ 4611686018427387903) (ly : ys.length ≤ 4611686018427387903) (r : Int) (hr : r = cmpZ (val10 xs) (val10 ys)) :
    Calls Tryz.prog 38 #[u, v] w fun e w' => e = .returned (.int .i64 r) ∧ w = w' := by
  obtain ⟨p, cap, eu⟩ := hu.form
  obtain ⟨p2, cap2, ev⟩ := hv.form
  have HU := Lib.hid hu
  have HV := Lib.hid hv
  have HR := Lib.hid hr
  have HX := Lib.hid hx
  have HY := Lib.hid hy
  clear hu hv hr hx hy
  obtain ⟨n, hn⟩ : ∃ n, n = xs.length := ⟨_, rfl⟩
  obtain ⟨m, hm⟩ : ∃ m, m = ys.length := ⟨_, rfl⟩
  rw [← hn] at eu lx
  rw [← hm] at ev ly
  subst eu
  subst ev
  have HN := Lib.hid (And.intro hn hm)
  clear hn hm
  go_enter Tryz.func38, Tryz.ntmps38
  go_wp2_with fail
  go_loopg [5] (n + m + 1) (fun gg s5 wr => ∃ i : Int, i + 1 = gg ∧ i ≤ n + m ∧ s5 = .int .i64 i ∧ wr = w ∧ Aside (Alike xs ys i))
  case atStart => exact ⟨(n : Int) + m, by omega, by omega, by go_num, rfl, fun j hj => by rw [dig_out (by have := HN.out; omega), dig_out (by have := HN.out; omega)]⟩
  case round =>
    obtain ⟨i, hi, hb, rfl, rfl, hall⟩ := hrel
    have HA := Lib.hid hall.out
    clear hall
    by_cases h0 : i ≥ 0
    · obtain ⟨k, rfl⟩ := Int.eq_ofNat_of_zero_le h0
      obtain ⟨x, hx⟩ : ∃ x, x = dig xs k := ⟨_, rfl⟩
      obtain ⟨y, hy⟩ : ∃ y, y = dig ys k := ⟨_, rfl⟩
      have K1 := Lib.hid hx
      have K2 := Lib.hid hy
      rcases Nat.lt_trichotomy x y with h | h | h
      · obtain rfl : r = -1 := by rw [HR.out, alike_lt HX.out HA.out (by rw [← hx, ← hy]; exact h)]
        have h1 : ((x : Int) == (y : Int)) = false := by simp; omega
        have h2 : (x : Int) < y := by omega
        clear hx hy h HA HR
        go_wp2_with (first
          | (go_at_call 57; (with_reducible refine (refAtB _ xs k x _ HU.out K1).mono ?_); rintro e w' ⟨rfl, rfl⟩)
          | (go_at_call 57; (with_reducible refine (refAtB _ ys k y _ HV.out K2).mono ?_); rintro e w' ⟨rfl, rfl⟩))
        go_ret
        exact ⟨rfl, rfl⟩
      · have hall2 : Alike xs ys ((k : Int) - 1) := fun j hj => by
          by_cases e : j = k
          · rw [e, ← hx, ← hy, h]
          · exact HA.out j (by omega)
        have HA2 := Lib.hid hall2
        subst h
        clear hx hy hall2 HA
        go_wp2_with (first
          | (go_at_call 57; (with_reducible refine (refAtB _ xs k x _ HU.out K1).mono ?_); rintro e w' ⟨rfl, rfl⟩)
          | (go_at_call 57; (with_reducible refine (refAtB _ ys k x _ HV.out K2).mono ?_); rintro e w' ⟨rfl, rfl⟩))
        go_roundg (gk - 1)
        case measure => omega
        case rel => exact ⟨(k : Int) - 1, by omega, by omega, by go_num, rfl, HA2.out⟩
      · obtain rfl : r = 1 := by rw [HR.out, alike_gt HY.out HA.out (by rw [← hx, ← hy]; exact h)]
        have h1 : ((x : Int) == (y : Int)) = false := by simp; omega
        have h2 : ¬ (x : Int) < y := by omega
        clear hx hy h HA HR
        go_wp2_with (first
          | (go_at_call 57; (with_reducible refine (refAtB _ xs k x _ HU.out K1).mono ?_); rintro e w' ⟨rfl, rfl⟩)
          | (go_at_call 57; (with_reducible refine (refAtB _ ys k y _ HV.out K2).mono ?_); rintro e w' ⟨rfl, rfl⟩))
        go_ret
        exact ⟨rfl, rfl⟩
    · obtain rfl : r = 0 := by rw [HR.out, alike_eq HA.out (by omega)]
      clear HA HR
      go_wp2_with fail
      go_ret
      exact ⟨rfl, rfl⟩
end Go.Proofs.YtdnijfkiebpnpaaGreatDoor
