/- Texts of one kind, one behind the other: each says ahead of itself what it shows. -/
import Derived.Test.YtdnijfkiebpnpaaGreatDoorHal
import Derived.Test.YtdnijfkiebpnpaaGreatDoorHar
import Derived.Test.YtdnijfkiebpnpaaGreatDoorHas
import Derived.Test.YtdnijfkiebpnpaaGreatDoorHai
import Derived.Test.YtdnijfkiebpnpaaGreatDoorHaj
/- A value as a condition, by the document. -/
namespace Go.Proofs.YtdnijfkiebpnpaaGreatDoor
open Go.RowKit

set_option maxRecDepth 20000 in
set_option maxHeartbeats 3200000 in
theorem rcBad (k : Int) (b : Bool) (n : Int) (t x : ByteArray) (q : List Val) (p : Option Addr) (cap : Nat) (w : World) (lang : Int) (hl : (lang == 1) = false) (hl2 : (lang != 1) = true) (m : Bool) (hc : ∀ W, Below w.heap.size w W → Calls Tryz.prog 12 #[.agg #[.int .i64 k, .bool b, .int .i64 n, .string t, .string x, .slice p q.length cap]] W fun e w' => e = .returned (.bool m) ∧ Below W.heap.size W w') (hm : m = false) :
    Calls Tryz.prog 5 #[.int .i64 lang, .agg #[.int .i64 k, .bool b, .int .i64 n, .string t, .string x, .slice p q.length cap]] w fun e w' => e = .returned (.tuple #[.int .i64 0, .int .i64 1]) ∧ Below w.heap.size w w' := by
  subst hm
  obtain ⟨W0, hW0⟩ : ∃ W0, W0 = w.alloc (.cells #[.int .i64 k, .bool b, .int .i64 n, .string t, .string x, .slice p q.length cap] 26) := ⟨_, rfl⟩
  have S : Six W0 w.heap.size k b n t x p q.length cap := by rw [hW0]; exact six_new _ rfl
  have b0 : Below w.heap.size w W0 := by rw [hW0]; exact below1 _ _
  have f0 := S.c0
  have f1 := S.c1
  have f3 := S.c3
  have H0 := Lib.hid hW0
  clear hW0
  go_enter Tryz.func5, Tryz.ntmps5
  go_wp2_with (first
    | ((try rw [← H0.out]); (with_reducible refine wpList_load6 (.tmp 3) w.heap.size S ?_ ?_ ?_ ?_); rfl; rfl; rfl)
    | ((try rw [← H0.out]); (with_reducible refine wpList_load6g (.tmp 3) w.heap.size S ?_ ?_ ?_ ?_); rfl; rfl; rfl)
    | (go_at_call 12; (try rw [← H0.out]); (with_reducible refine (hc _ b0).mono ?_); rintro e w' ⟨rfl, hb⟩; replace S := S.below hb; replace b0 := below_any b0 hb b0.size; have f0 := S.c0; have f1 := S.c1; have f3 := S.c3; clear hb))
  go_ret2
  exact ⟨rfl, b0⟩

set_option maxRecDepth 20000 in
set_option maxHeartbeats 3200000 in
theorem rsBad (k : Int) (b : Bool) (n : Int) (t x : ByteArray) (q : List Val) (p : Option Addr) (cap : Nat) (w : World) (m : Bool) (hc : ∀ W, Below w.heap.size w W → Calls Tryz.prog 12 #[.agg #[.int .i64 k, .bool b, .int .i64 n, .string t, .string x, .slice p q.length cap]] W fun e w' => e = .returned (.bool m) ∧ Below W.heap.size W w') (hm : m = false) :
    Calls Tryz.prog 5 #[.int .i64 1, .agg #[.int .i64 k, .bool b, .int .i64 n, .string t, .string x, .slice p q.length cap]] w fun e w' => e = .returned (.tuple #[.int .i64 2, .int .i64 1]) ∧ Below w.heap.size w w' := by
  subst hm
  obtain ⟨W0, hW0⟩ : ∃ W0, W0 = w.alloc (.cells #[.int .i64 k, .bool b, .int .i64 n, .string t, .string x, .slice p q.length cap] 26) := ⟨_, rfl⟩
  have S : Six W0 w.heap.size k b n t x p q.length cap := by rw [hW0]; exact six_new _ rfl
  have b0 : Below w.heap.size w W0 := by rw [hW0]; exact below1 _ _
  have f0 := S.c0
  have f1 := S.c1
  have f3 := S.c3
  have H0 := Lib.hid hW0
  clear hW0
  go_enter Tryz.func5, Tryz.ntmps5
  go_wp2_with (first
    | ((try rw [← H0.out]); (with_reducible refine wpList_load6 (.tmp 3) w.heap.size S ?_ ?_ ?_ ?_); rfl; rfl; rfl)
    | ((try rw [← H0.out]); (with_reducible refine wpList_load6g (.tmp 3) w.heap.size S ?_ ?_ ?_ ?_); rfl; rfl; rfl)
    | (go_at_call 12; (try rw [← H0.out]); (with_reducible refine (hc _ b0).mono ?_); rintro e w' ⟨rfl, hb⟩; replace S := S.below hb; replace b0 := below_any b0 hb b0.size; have f0 := S.c0; have f1 := S.c1; have f3 := S.c3; clear hb))
  go_ret2
  exact ⟨rfl, b0⟩

set_option maxRecDepth 20000 in
set_option maxHeartbeats 3200000 in
theorem rcBool (b : Bool) (n : Int) (t x : ByteArray) (q : List Val) (p : Option Addr) (cap : Nat) (w : World) (lang : Int) (hl : (lang == 1) = false) (hl2 : (lang != 1) = true) (m : Bool) (hc : ∀ W, Below w.heap.size w W → Calls Tryz.prog 12 #[.agg #[.int .i64 1, .bool b, .int .i64 n, .string t, .string x, .slice p q.length cap]] W fun e w' => e = .returned (.bool m) ∧ Below W.heap.size W w') (hm : m = true) :
    Calls Tryz.prog 5 #[.int .i64 lang, .agg #[.int .i64 1, .bool b, .int .i64 n, .string t, .string x, .slice p q.length cap]] w fun e w' => e = .returned (.tuple #[.int .i64 (tI b), .int .i64 0]) ∧ Below w.heap.size w w' := by
  subst hm
  obtain ⟨W0, hW0⟩ : ∃ W0, W0 = w.alloc (.cells #[.int .i64 1, .bool b, .int .i64 n, .string t, .string x, .slice p q.length cap] 26) := ⟨_, rfl⟩
  have S : Six W0 w.heap.size 1 b n t x p q.length cap := by rw [hW0]; exact six_new _ rfl
  have b0 : Below w.heap.size w W0 := by rw [hW0]; exact below1 _ _
  have f0 := S.c0
  have f1 := S.c1
  have f3 := S.c3
  have H0 := Lib.hid hW0
  clear hW0
  go_enter Tryz.func5, Tryz.ntmps5
  go_wp2_with (first
    | ((try rw [← H0.out]); (with_reducible refine wpList_load6 (.tmp 3) w.heap.size S ?_ ?_ ?_ ?_); rfl; rfl; rfl)
    | ((try rw [← H0.out]); (with_reducible refine wpList_load6g (.tmp 3) w.heap.size S ?_ ?_ ?_ ?_); rfl; rfl; rfl)
    | (go_at_call 12; (try rw [← H0.out]); (with_reducible refine (hc _ b0).mono ?_); rintro e w' ⟨rfl, hb⟩; replace S := S.below hb; replace b0 := below_any b0 hb b0.size; have f0 := S.c0; have f1 := S.c1; have f3 := S.c3; clear hb)
    | (go_at_call 13; (with_reducible refine (truthRef _ _).mono ?_); rintro e w' ⟨rfl, rfl⟩))
  go_ret2
  exact ⟨rfl, b0⟩

set_option maxRecDepth 20000 in
set_option maxHeartbeats 3200000 in
theorem rsBool (b : Bool) (n : Int) (t x : ByteArray) (q : List Val) (p : Option Addr) (cap : Nat) (w : World) (m : Bool) (hc : ∀ W, Below w.heap.size w W → Calls Tryz.prog 12 #[.agg #[.int .i64 1, .bool b, .int .i64 n, .string t, .string x, .slice p q.length cap]] W fun e w' => e = .returned (.bool m) ∧ Below W.heap.size W w') (hm : m = true) :
    Calls Tryz.prog 5 #[.int .i64 1, .agg #[.int .i64 1, .bool b, .int .i64 n, .string t, .string x, .slice p q.length cap]] w fun e w' => e = .returned (.tuple #[.int .i64 (tI b), .int .i64 0]) ∧ Below w.heap.size w w' := by
  subst hm
  obtain ⟨W0, hW0⟩ : ∃ W0, W0 = w.alloc (.cells #[.int .i64 1, .bool b, .int .i64 n, .string t, .string x, .slice p q.length cap] 26) := ⟨_, rfl⟩
  have S : Six W0 w.heap.size 1 b n t x p q.length cap := by rw [hW0]; exact six_new _ rfl
  have b0 : Below w.heap.size w W0 := by rw [hW0]; exact below1 _ _
  have f0 := S.c0
  have f1 := S.c1
  have f3 := S.c3
  have H0 := Lib.hid hW0
  clear hW0
  go_enter Tryz.func5, Tryz.ntmps5
  go_wp2_with (first
    | ((try rw [← H0.out]); (with_reducible refine wpList_load6 (.tmp 3) w.heap.size S ?_ ?_ ?_ ?_); rfl; rfl; rfl)
    | ((try rw [← H0.out]); (with_reducible refine wpList_load6g (.tmp 3) w.heap.size S ?_ ?_ ?_ ?_); rfl; rfl; rfl)
    | (go_at_call 12; (try rw [← H0.out]); (with_reducible refine (hc _ b0).mono ?_); rintro e w' ⟨rfl, hb⟩; replace S := S.below hb; replace b0 := below_any b0 hb b0.size; have f0 := S.c0; have f1 := S.c1; have f3 := S.c3; clear hb)
    | (go_at_call 13; (with_reducible refine (truthRef _ _).mono ?_); rintro e w' ⟨rfl, rfl⟩))
  go_ret2
  exact ⟨rfl, b0⟩

set_option maxRecDepth 20000 in
set_option maxHeartbeats 3200000 in
theorem rcNull (b : Bool) (n : Int) (t x : ByteArray) (q : List Val) (p : Option Addr) (cap : Nat) (w : World) (lang : Int) (hl : (lang == 1) = false) (hl2 : (lang != 1) = true) (m : Bool) (hc : ∀ W, Below w.heap.size w W → Calls Tryz.prog 12 #[.agg #[.int .i64 0, .bool b, .int .i64 n, .string t, .string x, .slice p q.length cap]] W fun e w' => e = .returned (.bool m) ∧ Below W.heap.size W w') (hm : m = true) :
    Calls Tryz.prog 5 #[.int .i64 lang, .agg #[.int .i64 0, .bool b, .int .i64 n, .string t, .string x, .slice p q.length cap]] w fun e w' => e = .returned (.tuple #[.int .i64 2, .int .i64 0]) ∧ Below w.heap.size w w' := by
  subst hm
  obtain ⟨W0, hW0⟩ : ∃ W0, W0 = w.alloc (.cells #[.int .i64 0, .bool b, .int .i64 n, .string t, .string x, .slice p q.length cap] 26) := ⟨_, rfl⟩
  have S : Six W0 w.heap.size 0 b n t x p q.length cap := by rw [hW0]; exact six_new _ rfl
  have b0 : Below w.heap.size w W0 := by rw [hW0]; exact below1 _ _
  have f0 := S.c0
  have f1 := S.c1
  have f3 := S.c3
  have H0 := Lib.hid hW0
  clear hW0
  go_enter Tryz.func5, Tryz.ntmps5
  go_wp2_with (first
    | ((try rw [← H0.out]); (with_reducible refine wpList_load6 (.tmp 3) w.heap.size S ?_ ?_ ?_ ?_); rfl; rfl; rfl)
    | ((try rw [← H0.out]); (with_reducible refine wpList_load6g (.tmp 3) w.heap.size S ?_ ?_ ?_ ?_); rfl; rfl; rfl)
    | (go_at_call 12; (try rw [← H0.out]); (with_reducible refine (hc _ b0).mono ?_); rintro e w' ⟨rfl, hb⟩; replace S := S.below hb; replace b0 := below_any b0 hb b0.size; have f0 := S.c0; have f1 := S.c1; have f3 := S.c3; clear hb))
  go_ret2
  exact ⟨rfl, b0⟩

set_option maxRecDepth 20000 in
set_option maxHeartbeats 3200000 in
theorem rcElse (k : Int) (b : Bool) (n : Int) (t x : ByteArray) (q : List Val) (p : Option Addr) (cap : Nat) (w : World) (lang : Int) (hl : (lang == 1) = false) (hl2 : (lang != 1) = true) (m : Bool) (hc : ∀ W, Below w.heap.size w W → Calls Tryz.prog 12 #[.agg #[.int .i64 k, .bool b, .int .i64 n, .string t, .string x, .slice p q.length cap]] W fun e w' => e = .returned (.bool m) ∧ Below W.heap.size W w') (hm : m = true) (h1 : (k == 1) = false) (h2 : (k == 0) = false) :
    Calls Tryz.prog 5 #[.int .i64 lang, .agg #[.int .i64 k, .bool b, .int .i64 n, .string t, .string x, .slice p q.length cap]] w fun e w' => e = .returned (.tuple #[.int .i64 0, .int .i64 4]) ∧ Below w.heap.size w w' := by
  subst hm
  obtain ⟨W0, hW0⟩ : ∃ W0, W0 = w.alloc (.cells #[.int .i64 k, .bool b, .int .i64 n, .string t, .string x, .slice p q.length cap] 26) := ⟨_, rfl⟩
  have S : Six W0 w.heap.size k b n t x p q.length cap := by rw [hW0]; exact six_new _ rfl
  have b0 : Below w.heap.size w W0 := by rw [hW0]; exact below1 _ _
  have f0 := S.c0
  have f1 := S.c1
  have f3 := S.c3
  have H0 := Lib.hid hW0
  clear hW0
  go_enter Tryz.func5, Tryz.ntmps5
  go_wp2_with (first
    | ((try rw [← H0.out]); (with_reducible refine wpList_load6 (.tmp 3) w.heap.size S ?_ ?_ ?_ ?_); rfl; rfl; rfl)
    | ((try rw [← H0.out]); (with_reducible refine wpList_load6g (.tmp 3) w.heap.size S ?_ ?_ ?_ ?_); rfl; rfl; rfl)
    | (go_at_call 12; (try rw [← H0.out]); (with_reducible refine (hc _ b0).mono ?_); rintro e w' ⟨rfl, hb⟩; replace S := S.below hb; replace b0 := below_any b0 hb b0.size; have f0 := S.c0; have f1 := S.c1; have f3 := S.c3; clear hb))
  go_ret2
  exact ⟨rfl, b0⟩

set_option maxRecDepth 20000 in
set_option maxHeartbeats 3200000 in
theorem rsText (b : Bool) (n : Int) (t x : ByteArray) (q : List Val) (p : Option Addr) (cap : Nat) (w : World) (m : Bool) (hc : ∀ W, Below w.heap.size w W → Calls Tryz.prog 12 #[.agg #[.int .i64 4, .bool b, .int .i64 n, .string t, .string x, .slice p q.length cap]] W fun e w' => e = .returned (.bool m) ∧ Below W.heap.size W w') (hm : m = true) :
    Calls Tryz.prog 5 #[.int .i64 1, .agg #[.int .i64 4, .bool b, .int .i64 n, .string t, .string x, .slice p q.length cap]] w fun e w' => e = .returned (.tuple #[.int .i64 (tI (!t.toList.isEmpty)), .int .i64 0]) ∧ Below w.heap.size w w' := by
  subst hm
  obtain ⟨W0, hW0⟩ : ∃ W0, W0 = w.alloc (.cells #[.int .i64 4, .bool b, .int .i64 n, .string t, .string x, .slice p q.length cap] 26) := ⟨_, rfl⟩
  have S : Six W0 w.heap.size 4 b n t x p q.length cap := by rw [hW0]; exact six_new _ rfl
  have b0 : Below w.heap.size w W0 := by rw [hW0]; exact below1 _ _
  have f0 := S.c0
  have f1 := S.c1
  have f3 := S.c3
  have H0 := Lib.hid hW0
  clear hW0
  go_enter Tryz.func5, Tryz.ntmps5
  go_wp2_with (first
    | ((try rw [← H0.out]); (with_reducible refine wpList_load6 (.tmp 3) w.heap.size S ?_ ?_ ?_ ?_); rfl; rfl; rfl)
    | ((try rw [← H0.out]); (with_reducible refine wpList_load6g (.tmp 3) w.heap.size S ?_ ?_ ?_ ?_); rfl; rfl; rfl)
    | (go_at_call 12; (try rw [← H0.out]); (with_reducible refine (hc _ b0).mono ?_); rintro e w' ⟨rfl, hb⟩; replace S := S.below hb; replace b0 := below_any b0 hb b0.size; have f0 := S.c0; have f1 := S.c1; have f3 := S.c3; clear hb)
    | (go_at_call 13; (with_reducible refine (truthRef _ _).mono ?_); rintro e w' ⟨rfl, rfl⟩))
  go_ret2
  exact ⟨rfl, b0⟩

set_option maxRecDepth 20000 in
set_option maxHeartbeats 3200000 in
theorem rsNum2 (b : Bool) (n : Int) (t x : ByteArray) (q : List Val) (p : Option Addr) (cap : Nat) (w : World) (m : Bool) (hc : ∀ W, Below w.heap.size w W → Calls Tryz.prog 12 #[.agg #[.int .i64 2, .bool b, .int .i64 n, .string t, .string x, .slice p q.length cap]] W fun e w' => e = .returned (.bool m) ∧ Below W.heap.size W w') (hm : m = true) (s : ByteArray) (z : Int) (c : Bool) (hz : (z != 0) = c) (hd : ∀ W, Below w.heap.size w W → Calls Tryz.prog 15 #[.agg #[.int .i64 2, .bool b, .int .i64 n, .string t, .string x, .slice p q.length cap]] W fun e w' => e = .returned (.string s) ∧ Below W.heap.size W w') (hq : ∀ W, Below w.heap.size w W → Calls Tryz.prog 14 #[.string s, .string ⟨#[48, 46, 48]⟩] W fun e w' => e = .returned (.int .i64 z) ∧ Below W.heap.size W w') :
    Calls Tryz.prog 5 #[.int .i64 1, .agg #[.int .i64 2, .bool b, .int .i64 n, .string t, .string x, .slice p q.length cap]] w fun e w' => e = .returned (.tuple #[.int .i64 (tI c), .int .i64 0]) ∧ Below w.heap.size w w' := by
  subst hm
  obtain ⟨W0, hW0⟩ : ∃ W0, W0 = w.alloc (.cells #[.int .i64 2, .bool b, .int .i64 n, .string t, .string x, .slice p q.length cap] 26) := ⟨_, rfl⟩
  have S : Six W0 w.heap.size 2 b n t x p q.length cap := by rw [hW0]; exact six_new _ rfl
  have b0 : Below w.heap.size w W0 := by rw [hW0]; exact below1 _ _
  have f0 := S.c0
  have f1 := S.c1
  have f3 := S.c3
  have H0 := Lib.hid hW0
  clear hW0
  go_enter Tryz.func5, Tryz.ntmps5
  go_wp2_with (first
    | ((try rw [← H0.out]); (with_reducible refine wpList_load6 (.tmp 3) w.heap.size S ?_ ?_ ?_ ?_); rfl; rfl; rfl)
    | ((try rw [← H0.out]); (with_reducible refine wpList_load6g (.tmp 3) w.heap.size S ?_ ?_ ?_ ?_); rfl; rfl; rfl)
    | (go_at_call 12; (try rw [← H0.out]); (with_reducible refine (hc _ b0).mono ?_); rintro e w' ⟨rfl, hb⟩; replace S := S.below hb; replace b0 := below_any b0 hb b0.size; have f0 := S.c0; have f1 := S.c1; have f3 := S.c3; clear hb)
    | (go_at_call 15; (try rw [← H0.out]); (with_reducible refine (hd _ b0).mono ?_); rintro e w' ⟨rfl, hb⟩; replace S := S.below hb; replace b0 := below_any b0 hb b0.size; have f0 := S.c0; have f1 := S.c1; have f3 := S.c3; clear hb)
    | (go_at_call 14; (try rw [← H0.out]); (with_reducible refine (hq _ b0).mono ?_); rintro e w' ⟨rfl, hb⟩; replace S := S.below hb; replace b0 := below_any b0 hb b0.size; have f0 := S.c0; have f1 := S.c1; have f3 := S.c3; clear hb)
    | (go_at_call 13; (with_reducible refine (truthRef _ _).mono ?_); rintro e w' ⟨rfl, rfl⟩))
  go_ret2
  exact ⟨rfl, b0⟩

set_option maxRecDepth 20000 in
set_option maxHeartbeats 3200000 in
theorem rsNum3 (b : Bool) (n : Int) (t x : ByteArray) (q : List Val) (p : Option Addr) (cap : Nat) (w : World) (m : Bool) (hc : ∀ W, Below w.heap.size w W → Calls Tryz.prog 12 #[.agg #[.int .i64 3, .bool b, .int .i64 n, .string t, .string x, .slice p q.length cap]] W fun e w' => e = .returned (.bool m) ∧ Below W.heap.size W w') (hm : m = true) (s : ByteArray) (z : Int) (c : Bool) (hz : (z != 0) = c) (hd : ∀ W, Below w.heap.size w W → Calls Tryz.prog 15 #[.agg #[.int .i64 3, .bool b, .int .i64 n, .string t, .string x, .slice p q.length cap]] W fun e w' => e = .returned (.string s) ∧ Below W.heap.size W w') (hq : ∀ W, Below w.heap.size w W → Calls Tryz.prog 14 #[.string s, .string ⟨#[48, 46, 48]⟩] W fun e w' => e = .returned (.int .i64 z) ∧ Below W.heap.size W w') :
    Calls Tryz.prog 5 #[.int .i64 1, .agg #[.int .i64 3, .bool b, .int .i64 n, .string t, .string x, .slice p q.length cap]] w fun e w' => e = .returned (.tuple #[.int .i64 (tI c), .int .i64 0]) ∧ Below w.heap.size w w' := by
  subst hm
  obtain ⟨W0, hW0⟩ : ∃ W0, W0 = w.alloc (.cells #[.int .i64 3, .bool b, .int .i64 n, .string t, .string x, .slice p q.length cap] 26) := ⟨_, rfl⟩
  have S : Six W0 w.heap.size 3 b n t x p q.length cap := by rw [hW0]; exact six_new _ rfl
  have b0 : Below w.heap.size w W0 := by rw [hW0]; exact below1 _ _
  have f0 := S.c0
  have f1 := S.c1
  have f3 := S.c3
  have H0 := Lib.hid hW0
  clear hW0
  go_enter Tryz.func5, Tryz.ntmps5
  go_wp2_with (first
    | ((try rw [← H0.out]); (with_reducible refine wpList_load6 (.tmp 3) w.heap.size S ?_ ?_ ?_ ?_); rfl; rfl; rfl)
    | ((try rw [← H0.out]); (with_reducible refine wpList_load6g (.tmp 3) w.heap.size S ?_ ?_ ?_ ?_); rfl; rfl; rfl)
    | (go_at_call 12; (try rw [← H0.out]); (with_reducible refine (hc _ b0).mono ?_); rintro e w' ⟨rfl, hb⟩; replace S := S.below hb; replace b0 := below_any b0 hb b0.size; have f0 := S.c0; have f1 := S.c1; have f3 := S.c3; clear hb)
    | (go_at_call 15; (try rw [← H0.out]); (with_reducible refine (hd _ b0).mono ?_); rintro e w' ⟨rfl, hb⟩; replace S := S.below hb; replace b0 := below_any b0 hb b0.size; have f0 := S.c0; have f1 := S.c1; have f3 := S.c3; clear hb)
    | (go_at_call 14; (try rw [← H0.out]); (with_reducible refine (hq _ b0).mono ?_); rintro e w' ⟨rfl, hb⟩; replace S := S.below hb; replace b0 := below_any b0 hb b0.size; have f0 := S.c0; have f1 := S.c1; have f3 := S.c3; clear hb)
    | (go_at_call 13; (with_reducible refine (truthRef _ _).mono ?_); rintro e w' ⟨rfl, rfl⟩))
  go_ret2
  exact ⟨rfl, b0⟩

set_option maxRecDepth 20000 in
set_option maxHeartbeats 3200000 in
theorem rsNull (b : Bool) (n : Int) (t x : ByteArray) (q : List Val) (p : Option Addr) (cap : Nat) (w : World) (m : Bool) (hc : ∀ W, Below w.heap.size w W → Calls Tryz.prog 12 #[.agg #[.int .i64 0, .bool b, .int .i64 n, .string t, .string x, .slice p q.length cap]] W fun e w' => e = .returned (.bool m) ∧ Below W.heap.size W w') (hm : m = true) :
    Calls Tryz.prog 5 #[.int .i64 1, .agg #[.int .i64 0, .bool b, .int .i64 n, .string t, .string x, .slice p q.length cap]] w fun e w' => e = .returned (.tuple #[.int .i64 2, .int .i64 5]) ∧ Below w.heap.size w w' := by
  subst hm
  obtain ⟨W0, hW0⟩ : ∃ W0, W0 = w.alloc (.cells #[.int .i64 0, .bool b, .int .i64 n, .string t, .string x, .slice p q.length cap] 26) := ⟨_, rfl⟩
  have S : Six W0 w.heap.size 0 b n t x p q.length cap := by rw [hW0]; exact six_new _ rfl
  have b0 : Below w.heap.size w W0 := by rw [hW0]; exact below1 _ _
  have f0 := S.c0
  have f1 := S.c1
  have f3 := S.c3
  have H0 := Lib.hid hW0
  clear hW0
  go_enter Tryz.func5, Tryz.ntmps5
  go_wp2_with (first
    | ((try rw [← H0.out]); (with_reducible refine wpList_load6 (.tmp 3) w.heap.size S ?_ ?_ ?_ ?_); rfl; rfl; rfl)
    | ((try rw [← H0.out]); (with_reducible refine wpList_load6g (.tmp 3) w.heap.size S ?_ ?_ ?_ ?_); rfl; rfl; rfl)
    | (go_at_call 12; (try rw [← H0.out]); (with_reducible refine (hc _ b0).mono ?_); rintro e w' ⟨rfl, hb⟩; replace S := S.below hb; replace b0 := below_any b0 hb b0.size; have f0 := S.c0; have f1 := S.c1; have f3 := S.c3; clear hb))
  go_ret2
  exact ⟨rfl, b0⟩

set_option maxRecDepth 20000 in
set_option maxHeartbeats 3200000 in
theorem rsElse (k : Int) (b : Bool) (n : Int) (t x : ByteArray) (q : List Val) (p : Option Addr) (cap : Nat) (w : World) (m : Bool) (hc : ∀ W, Below w.heap.size w W → Calls Tryz.prog 12 #[.agg #[.int .i64 k, .bool b, .int .i64 n, .string t, .string x, .slice p q.length cap]] W fun e w' => e = .returned (.bool m) ∧ Below W.heap.size W w') (hm : m = true) (h1 : (k == 1) = false) (h4 : (k == 4) = false) (h2 : (k == 2) = false) (h3 : (k == 3) = false) (h0 : (k == 0) = false) :
    Calls Tryz.prog 5 #[.int .i64 1, .agg #[.int .i64 k, .bool b, .int .i64 n, .string t, .string x, .slice p q.length cap]] w fun e w' => e = .returned (.tuple #[.int .i64 2, .int .i64 4]) ∧ Below w.heap.size w w' := by
  subst hm
  obtain ⟨W0, hW0⟩ : ∃ W0, W0 = w.alloc (.cells #[.int .i64 k, .bool b, .int .i64 n, .string t, .string x, .slice p q.length cap] 26) := ⟨_, rfl⟩
  have S : Six W0 w.heap.size k b n t x p q.length cap := by rw [hW0]; exact six_new _ rfl
  have b0 : Below w.heap.size w W0 := by rw [hW0]; exact below1 _ _
  have f0 := S.c0
  have f1 := S.c1
  have f3 := S.c3
  have H0 := Lib.hid hW0
  clear hW0
  go_enter Tryz.func5, Tryz.ntmps5
  go_wp2_with (first
    | ((try rw [← H0.out]); (with_reducible refine wpList_load6 (.tmp 3) w.heap.size S ?_ ?_ ?_ ?_); rfl; rfl; rfl)
    | ((try rw [← H0.out]); (with_reducible refine wpList_load6g (.tmp 3) w.heap.size S ?_ ?_ ?_ ?_); rfl; rfl; rfl)
    | (go_at_call 12; (try rw [← H0.out]); (with_reducible refine (hc _ b0).mono ?_); rintro e w' ⟨rfl, hb⟩; replace S := S.below hb; replace b0 := below_any b0 hb b0.size; have f0 := S.c0; have f1 := S.c1; have f3 := S.c3; clear hb))
  go_ret2
  exact ⟨rfl, b0⟩
end Go.Proofs.YtdnijfkiebpnpaaGreatDoor

/- A value as a condition, both: one answer. -/
namespace Go.Proofs.YtdnijfkiebpnpaaGreatDoor
open Go.RowKit

theorem says_one {s s2 : ByteArray} (h : chk s.data.toList = true) (h2 : chk s2.data.toList = true) (e : dval s.data.toList = dval s2.data.toList) : s = s2 := by
  have a := (chk_dec _ h).1
  have b := (chk_dec _ h2).1
  rw [e, b] at a
  injection a with a
  exact bytes_ext a.symm
theorem numText (k n : Int) (t : ByteArray) (lo : -9223372036854775808 ≤ n) (hi : n ≤ 9223372036854775807) (ht : t.size ≤ 2097152) : ∃ s, SaysR (numV k n t) s := by
  by_cases h2 : k = 2
  · subst h2
    obtain ⟨a1, a2, a3, _⟩ := intT_facts n lo hi
    refine ⟨intT n, a1, ?_, by omega⟩
    rw [a2]
    unfold numV
    rw [if_pos rfl]
  · by_cases hk : chk t.data.toList = true
    · refine ⟨t, hk, ?_, by omega⟩
      unfold numV
      rw [if_neg h2, if_pos hk]
    · refine ⟨⟨#[48, 46, 48]⟩, ?_⟩
      have e : numV k n t = 0 := by unfold numV; rw [if_neg h2, if_neg hk]
      rw [e]
      exact zeroSays
theorem refDecOne (k : Int) (b : Bool) (n : Int) (t x : ByteArray) (p : Option Addr) (len cap : Nat) (s : ByteArray) (hs : SaysR (numV k n t) s) (W : World) (hf : Fine n t x len) :
    Calls Tryz.prog 15 #[.agg #[.int .i64 k, .bool b, .int .i64 n, .string t, .string x, .slice p len cap]] W fun e w' => e = .returned (.string s) ∧ Below W.heap.size W w' := by
  refine (refDecAt k b n t x p len cap W hf).mono ?_
  rintro e w' ⟨s2, rfl, h2, hb⟩
  rw [says_one h2.1 hs.1 (h2.2.1.trans hs.2.1.symm)]
  exact ⟨rfl, hb⟩
theorem lFineNull : Fine 0 ⟨#[]⟩ ⟨#[]⟩ ([] : List Val).length := ⟨by decide, by decide, by decide, by decide, by decide⟩
theorem lHeldNull (W : World) : Held W (.slice none ([] : List Val).length 0) [] := by unfold Held; exact ⟨none, 0, rfl⟩
theorem bareInt : mayP (.mk 2 false 0 ⟨#[]⟩ ⟨#[]⟩ []) 0 = true := by
  unfold mayP fitsP
  simp [bareP]
  rfl
theorem equalNum (k : Int) (hk : k = 2 ∨ k = 3) (b : Bool) (n : Int) (t x : ByteArray) (q : List Val) (hm : mayP (.mk k b n t x q) 0 = true) : equalTop 1 (.mk k b n t x q) (.mk 2 false 0 ⟨#[]⟩ ⟨#[]⟩ []) = tI (cmpZ (numV k n t) 0 == 0) := by
  unfold equalTop
  rw [hm, bareInt, if_pos (by rfl)]
  unfold equalP
  have e : numV 2 0 ⟨#[]⟩ = 0 := by unfold numV; rw [if_pos rfl, Int.zero_mul]
  rw [e, if_neg (by omega), if_pos ⟨by rcases hk with rfl | rfl <;> rfl, rfl⟩]
theorem not_tI (c : Bool) : notT (tr (tI c)) = tI (!c) := by cases c <;> rfl
/-- Of, both: one answer. -/
def Of2 (lang k : Int) (b : Bool) (n : Int) (t x : ByteArray) (q : List Val) : Prop := ∃ (a e9 : Int),
  (∀ W p cap, Gd W → Tab W → Held W (.slice p q.length cap) q → Calls Tryz.prog 4 #[.int .i64 lang, .agg #[.int .i64 k, .bool b, .int .i64 n, .string t, .string x, .slice p q.length cap]] W fun e w' => e = .returned (.tuple #[.int .i64 a, .int .i64 e9]) ∧ Below W.heap.size W w') ∧
  (∀ W p cap, Held W (.slice p q.length cap) q → Calls Tryz.prog 5 #[.int .i64 lang, .agg #[.int .i64 k, .bool b, .int .i64 n, .string t, .string x, .slice p q.length cap]] W fun e w' => e = .returned (.tuple #[.int .i64 a, .int .i64 e9]) ∧ Below W.heap.size W w')
theorem ofBoth (lang k : Int) (b : Bool) (n : Int) (t x : ByteArray) (q : List Val) (hf : Fine n t x q.length) : Of2 lang k b n t x q := by
  have ck : ∀ r, r = mayP (.mk k b n t x q) 0 → ∀ (W0 : World) (p : Option Addr) (cap : Nat), Gd W0 → Held W0 (.slice p q.length cap) q → ∀ W1, Below W0.heap.size W0 W1 → ∀ W, Below W1.heap.size W1 W → Calls Tryz.prog 21 #[.agg #[.int .i64 k, .bool b, .int .i64 n, .string t, .string x, .slice p q.length cap]] W fun e w' => e = .returned (.bool r) ∧ Below W.heap.size W w' := by
    intro r hr W0 p cap hG hl W1 h1 W h2
    rw [hr]
    exact checkAtV _ k b n t x q (.slice p q.length cap) W rfl ((hG.below h1).below h2) hf.ht hf.hx (Held.below q (Held.below q hl h1) h2)
  have my : ∀ r, r = mayP (.mk k b n t x q) 0 → ∀ (W0 : World) (p : Option Addr) (cap : Nat), Held W0 (.slice p q.length cap) q → ∀ W, Below W0.heap.size W0 W → Calls Tryz.prog 12 #[.agg #[.int .i64 k, .bool b, .int .i64 n, .string t, .string x, .slice p q.length cap]] W fun e w' => e = .returned (.bool r) ∧ Below W.heap.size W w' := by
    intro r hr W0 p cap hl W h1
    rw [hr]
    exact refMay k b n t x q p cap W hf (Held.below q hl h1)
  by_cases hl1 : lang = 1
  · subst hl1
    cases hm : mayP (.mk k b n t x q) 0 with
    | false => exact ⟨2, 1, fun W p cap hG hT hl => ofS k b n t x q p cap W 2 1 fun W1 h1 => otBad k b n t x q p cap W1 _ (ck _ hm.symm W p cap hG hl W1 h1) rfl, fun W p cap hl => rsBad k b n t x q p cap W _ (my _ hm.symm W p cap hl) rfl⟩
    | true =>
      by_cases k1 : k = 1
      · subst k1
        exact ⟨tI b, 0, fun W p cap hG hT hl => ofS 1 b n t x q p cap W _ 0 fun W1 h1 => otBool b n t x q p cap W1 _ (ck _ hm.symm W p cap hG hl W1 h1) rfl, fun W p cap hl => rsBool b n t x q p cap W _ (my _ hm.symm W p cap hl) rfl⟩
      by_cases k4 : k = 4
      · subst k4
        exact ⟨tI (!t.toList.isEmpty), 0, fun W p cap hG hT hl => ofS 4 b n t x q p cap W _ 0 fun W1 h1 => otText b n t x q p cap W1 _ (ck _ hm.symm W p cap hG hl W1 h1) rfl, fun W p cap hl => rsText b n t x q p cap W _ (my _ hm.symm W p cap hl) rfl⟩
      by_cases kn : k = 2 ∨ k = 3
      · obtain ⟨s, hs⟩ := numText k n t hf.lo hf.hi hf.ht
        have eq := equalNum k kn b n t x q hm
        have en : notT (tr (equalTop 1 (.mk k b n t x q) (.mk 2 false 0 ⟨#[]⟩ ⟨#[]⟩ []))) = tI (cmpZ (numV k n t) 0 != 0) := by rw [eq, not_tI]; rfl
        have hq : ∀ (W0 : World) (p : Option Addr) (cap : Nat), Gd W0 → Tab W0 → Held W0 (.slice p q.length cap) q → ∀ W1, Below W0.heap.size W0 W1 → ∀ W, Below W1.heap.size W1 W → Calls Tryz.prog 23 #[.int .i64 1, .agg #[.int .i64 k, .bool b, .int .i64 n, .string t, .string x, .slice p q.length cap], .agg #[.int .i64 2, .bool false, .int .i64 0, .string ⟨#[]⟩, .string ⟨#[]⟩, .slice none 0 0]] W fun e w' => e = .returned (.int .i64 (equalTop 1 (.mk k b n t x q) (.mk 2 false 0 ⟨#[]⟩ ⟨#[]⟩ []))) ∧ Below W.heap.size W w' := fun W0 p cap hG hT hl W1 h1 W h2 =>
          EqualC 1 k b n t x q p cap 2 false 0 ⟨#[]⟩ ⟨#[]⟩ [] none 0 W ((hG.below h1).below h2) ((hT.below h1).below h2) hf lFineNull (Held.below q (Held.below q hl h1) h2) (lHeldNull W)
        refine ⟨tI (cmpZ (numV k n t) 0 != 0), 0, fun W p cap hG hT hl => ofS k b n t x q p cap W _ 0 fun W1 h1 => ?_, fun W p cap hl => ?_⟩
        · rw [← en]
          rcases kn with rfl | rfl
          · exact otNum2 b n t x q p cap W1 _ (ck _ hm.symm W p cap hG hl W1 h1) rfl _ (hq W p cap hG hT hl W1 h1)
          · exact otNum3 b n t x q p cap W1 _ (ck _ hm.symm W p cap hG hl W1 h1) rfl _ (hq W p cap hG hT hl W1 h1)
        · have hcmp := fun W' (_ : Below W.heap.size W W') => refCmpSays hs zeroSays W'
          have hdec := fun W' (_ : Below W.heap.size W W') => refDecOne k b n t x p q.length cap s hs W' hf
          rcases kn with rfl | rfl
          · exact rsNum2 b n t x q p cap W _ (my _ hm.symm W p cap hl) rfl s _ _ rfl hdec hcmp
          · exact rsNum3 b n t x q p cap W _ (my _ hm.symm W p cap hl) rfl s _ _ rfl hdec hcmp
      by_cases k0 : k = 0
      · subst k0
        exact ⟨2, 5, fun W p cap hG hT hl => ofS 0 b n t x q p cap W _ 5 fun W1 h1 => otNull b n t x q p cap W1 _ (ck _ hm.symm W p cap hG hl W1 h1) rfl, fun W p cap hl => rsNull b n t x q p cap W _ (my _ hm.symm W p cap hl) rfl⟩
      · have e1 : (k == 1) = false := by simpa using k1
        have e4 : (k == 4) = false := by simpa using k4
        have e2 : (k == 2) = false := by simp; omega
        have e3 : (k == 3) = false := by simp; omega
        have e0 : (k == 0) = false := by simpa using k0
        exact ⟨2, 4, fun W p cap hG hT hl => ofS k b n t x q p cap W _ 4 fun W1 h1 => otElse k b n t x q p cap W1 _ (ck _ hm.symm W p cap hG hl W1 h1) rfl e1 e4 e2 e3 e0, fun W p cap hl => rsElse k b n t x q p cap W _ (my _ hm.symm W p cap hl) rfl e1 e4 e2 e3 e0⟩
  · have l1 : (lang == 1) = false := by simpa using hl1
    have l2 : (lang != 1) = true := by simpa using hl1
    cases hm : mayP (.mk k b n t x q) 0 with
    | false => exact ⟨0, 1, fun W p cap hG hT hl => ofC k b n t x q p cap W lang l1 0 1 fun W1 h1 => opBad k b n t x q p cap W1 _ (ck _ hm.symm W p cap hG hl W1 h1) rfl, fun W p cap hl => rcBad k b n t x q p cap W lang l1 l2 _ (my _ hm.symm W p cap hl) rfl⟩
    | true =>
      by_cases k1 : k = 1
      · subst k1
        exact ⟨tI b, 0, fun W p cap hG hT hl => ofC 1 b n t x q p cap W lang l1 _ 0 fun W1 h1 => opBool b n t x q p cap W1 _ (ck _ hm.symm W p cap hG hl W1 h1) rfl, fun W p cap hl => rcBool b n t x q p cap W lang l1 l2 _ (my _ hm.symm W p cap hl) rfl⟩
      by_cases k0 : k = 0
      · subst k0
        exact ⟨2, 0, fun W p cap hG hT hl => ofC 0 b n t x q p cap W lang l1 _ 0 fun W1 h1 => opNull b n t x q p cap W1 _ (ck _ hm.symm W p cap hG hl W1 h1) rfl, fun W p cap hl => rcNull b n t x q p cap W lang l1 l2 _ (my _ hm.symm W p cap hl) rfl⟩
      · have e1 : (k == 1) = false := by simpa using k1
        have e0 : (k == 0) = false := by simpa using k0
        exact ⟨0, 4, fun W p cap hG hT hl => ofC k b n t x q p cap W lang l1 _ 4 fun W1 h1 => opElse k b n t x q p cap W1 _ (ck _ hm.symm W p cap hG hl W1 h1) rfl e1 e0, fun W p cap hl => rcElse k b n t x q p cap W lang l1 l2 _ (my _ hm.symm W p cap hl) rfl e1 e0⟩
end Go.Proofs.YtdnijfkiebpnpaaGreatDoor

/- The document's own Same, for values in one another. -/
namespace Go.Proofs.YtdnijfkiebpnpaaGreatDoor
open Go.RowKit

/-- The document's own Same's contract at a value. -/
def SameZ (v : Val) : Prop := ∀ (W : World) (k : Int) (b : Bool) (n : Int) (t x : ByteArray) (q : List Val) (p : Option Addr) (cap : Nat) (v2 : Val) (k2 : Int) (b2 : Bool) (n2 : Int) (t2 x2 : ByteArray) (q2 : List Val) (p2 : Option Addr) (cap2 : Nat),
  v = .mk k b n t x q → v2 = .mk k2 b2 n2 t2 x2 q2 → q.length ≤ 2097152 → Held W (.slice p q.length cap) q → Held W (.slice p2 q2.length cap2) q2 →
  Calls Tryz.prog 8 #[.agg #[.int .i64 k, .bool b, .int .i64 n, .string t, .string x, .slice p q.length cap], .agg #[.int .i64 k2, .bool b2, .int .i64 n2, .string t2, .string x2, .slice p2 q2.length cap2]] W
    fun e w' => e = .returned (.bool (sameP v v2)) ∧ Below W.heap.size W w'

theorem eqRowLen (p p2 : Option Addr) (n n2 cap cap2 : Nat) (w : World) (h : ¬ n = n2) :
    Calls Tryz.prog 16 #[.slice p n cap, .slice p2 n2 cap2] w fun e w' => e = .returned (.bool false) ∧ Below w.heap.size w w' := by
  have h1 : ((n : Int) != n2) = true := by simp; omega
  clear h
  go_enter Tryz.func16, Tryz.ntmps16
  go_wp2_with fail
  go_ret
  exact ⟨rfl, Below.refl _ _⟩
theorem eqRowNone (p p2 : Option Addr) (cap cap2 : Nat) (w : World) :
    Calls Tryz.prog 16 #[.slice p 0 cap, .slice p2 0 cap2] w fun e w' => e = .returned (.bool true) ∧ Below w.heap.size w w' := by
  go_enter Tryz.func16, Tryz.ntmps16
  go_wp2_with fail
  go_loopw [5] (fun i wr => i = .int .i64 0 ∧ wr = w) (fun _ _ => 0)
  case atStart => exact ⟨rfl, rfl⟩
  case round =>
    obtain ⟨rfl, rfl⟩ := hrel
    go_wp2_with fail
    go_ret
    exact ⟨rfl, Below.refl _ _⟩

set_option maxRecDepth 20000 in
set_option maxHeartbeats 3200000 in
theorem eqRowSome (l l2 : List Val) (g off cap g2 off2 cap2 : Nat) (w : World) (hl : Holds w g off l) (hl2 : Holds w g2 off2 l2) (hlen : l2.length = l.length) (hn : l.length ≤ 2097152) (each : ∀ v ∈ l, SameZ v) :
    Calls Tryz.prog 16 #[.slice (some ⟨g, off, none⟩) l.length cap, .slice (some ⟨g2, off2, none⟩) l.length cap2] w fun e w' => e = .returned (.bool (eachSame l l2)) ∧ Below w.heap.size w w' := by
  have HH := Lib.hid hl
  have HH2 := Lib.hid hl2
  have HE := Lib.hid each
  have HL := Lib.hid hlen
  clear hl hl2 each hlen
  go_enter Tryz.func16, Tryz.ntmps16
  go_wp2_with fail
  go_loopw [5] (fun i wr => ∃ j : Nat, j ≤ l.length ∧ i = .int .i64 j ∧ Below w.heap.size w wr ∧ ∀ (i : Nat) (h : i < l.length) (h2 : i < l2.length), i < j → sameP l[i] l2[i] = true) (fun i _ => l.length - (intOf i).toNat)
  case atStart => exact ⟨0, Nat.zero_le _, rfl, Below.refl _ _, fun _ _ _ h => absurd h (by omega)⟩
  case round =>
    obtain ⟨j, hj, rfl, hb, hall⟩ := hrel
    have HA := Lib.hid hall
    clear hall
    by_cases hlt : j < l.length
    · have hlt2 : j < l2.length := by have := HL.out; omega
      obtain ⟨k, b, n, t, x, q, p, cp, o1⟩ := (Holds.at_ l off HH.out j hlt).opens
      obtain ⟨k2, b2, n2, t2, x2, q2, p2, cp2, o2⟩ := (Holds.at_ l2 off2 HH2.out j hlt2).opens
      have hc := fun W (hb : Below w.heap.size w W) => HE.out l[j] (List.getElem_mem hlt) W k b n t x q p cp l2[j] k2 b2 n2 t2 x2 q2 p2 cp2 o1.e o2.e o1.hf.hn (Held.below q o1.hl hb) (Held.below q2 o2.hl hb)
      obtain ⟨r, hr⟩ : ∃ r, r = sameP l[j] l2[j] := ⟨_, rfl⟩
      rw [← hr] at hc
      have R1 : ∀ w', Below w.heap.size w w' → w'.rangeAt g (off + j * 6) [.int .i64 k, .bool b, .int .i64 n, .string t, .string x, .slice p q.length cp] := fun w' h => (o1.below h).range
      have R2 : ∀ w', Below w.heap.size w w' → w'.rangeAt g2 (off2 + j * 6) [.int .i64 k2, .bool b2, .int .i64 n2, .string t2, .string x2, .slice p2 q2.length cp2] := fun w' h => (o2.below h).range
      have HC := Lib.hid hc
      have HR := Lib.hid hr
      have HR1 := Lib.hid R1
      have HR2 := Lib.hid R2
      clear o1 o2 hr hc R1 R2
      have hlti : (j : Int) < l.length := by omega
      go_wp2_with fail
      refine wp_region_held_drew (S := fun w' => Below w.heap.size w w') (by kernel_rfl) hb.drew (fun hHeld => ?_)
      refine wpAnyH_take (i := 0) (v := .slice (some ⟨g, off, none⟩) l.length cap) rfl (by kernel_rfl) (by kernel_rfl) (by kernel_rfl) (fun _ _ _ h => h) (Or.inl ⟨by rfl, fun W _ => by go_simp⟩) hHeld ?_
      try simp only [Act.put, List.getElem_toArray, List.getElem_cons_succ, List.getElem_cons_zero, List.setIfInBounds_toArray, List.set_cons_zero, List.set_cons_succ]
      refine wpAnyH_take (i := 1) (v := .int .i64 j) rfl (by kernel_rfl) (by kernel_rfl) (by kernel_rfl) (fun _ _ _ h => h) (Or.inl ⟨by rfl, fun W _ => by go_simp⟩) hHeld ?_
      try simp only [Act.put, List.getElem_toArray, List.getElem_cons_succ, List.getElem_cons_zero, List.setIfInBounds_toArray, List.set_cons_zero, List.set_cons_succ]
      refine wpAnyH_take (i := 2) (v := .pointer (some ⟨g, off + j * 6, none⟩)) rfl (by kernel_rfl) (by kernel_rfl) (by kernel_rfl) (fun _ _ _ h => h) (Or.inl ⟨by rfl, fun W _ => by go_simp⟩) hHeld ?_
      try simp only [Act.put, List.getElem_toArray, List.getElem_cons_succ, List.getElem_cons_zero, List.setIfInBounds_toArray, List.set_cons_zero, List.set_cons_succ]
      refine wpAnyH_take (i := 3) rfl (by kernel_rfl) (by kernel_rfl) (by kernel_rfl) (fun _ _ _ h => h) (yieldsIf_load_mid (by rfl) 26 (.tmp 19) rfl g (off + j * 6) rfl _ _ (fun w h => HR1.out w h) Tryz.underlying26 rfl info28) hHeld ?_
      try simp only [Act.put, List.getElem_toArray, List.getElem_cons_succ, List.getElem_cons_zero, List.setIfInBounds_toArray, List.set_cons_zero, List.set_cons_succ]
      refine wpAnyH_take (i := 4) (v := .slice (some ⟨g2, off2, none⟩) l.length cap2) rfl (by kernel_rfl) (by kernel_rfl) (by kernel_rfl) (fun _ _ _ h => h) (Or.inl ⟨by rfl, fun W _ => by go_simp⟩) hHeld ?_
      try simp only [Act.put, List.getElem_toArray, List.getElem_cons_succ, List.getElem_cons_zero, List.setIfInBounds_toArray, List.set_cons_zero, List.set_cons_succ]
      refine wpAnyH_take (i := 5) (v := .int .i64 j) rfl (by kernel_rfl) (by kernel_rfl) (by kernel_rfl) (fun _ _ _ h => h) (Or.inl ⟨by rfl, fun W _ => by go_simp⟩) hHeld ?_
      try simp only [Act.put, List.getElem_toArray, List.getElem_cons_succ, List.getElem_cons_zero, List.setIfInBounds_toArray, List.set_cons_zero, List.set_cons_succ]
      refine wpAnyH_take (i := 6) (v := .pointer (some ⟨g2, off2 + j * 6, none⟩)) rfl (by kernel_rfl) (by kernel_rfl) (by kernel_rfl) (fun _ _ _ h => h) (Or.inl ⟨by rfl, fun W _ => by go_simp⟩) hHeld ?_
      try simp only [Act.put, List.getElem_toArray, List.getElem_cons_succ, List.getElem_cons_zero, List.setIfInBounds_toArray, List.set_cons_zero, List.set_cons_succ]
      refine wpAnyH_take (i := 7) rfl (by kernel_rfl) (by kernel_rfl) (by kernel_rfl) (fun _ _ _ h => h) (yieldsIf_load_mid (by rfl) 26 (.tmp 23) rfl g2 (off2 + j * 6) rfl _ _ (fun w h => HR2.out w h) Tryz.underlying26 rfl info28) hHeld ?_
      try simp only [Act.put, List.getElem_toArray, List.getElem_cons_succ, List.getElem_cons_zero, List.setIfInBounds_toArray, List.set_cons_zero, List.set_cons_succ]
      refine wpAnyH_ready (rs := [8]) (by kernel_rfl) (by simp) ?_
      refine AllReadyH.cons rfl (fun K hK => ?_) AllReadyH.nil
      rw [if_pos (by rfl)]
      go_simp
      refine (HC.out _ hHeld).mono ?_
      rintro e w3 ⟨rfl, hb3⟩
      refine hK.out _ _ (below_any hHeld hb3 hHeld.size) (fun hHeld2 => ?_)
      clear hK K hb3 hHeld
      try simp only [Act.put, List.getElem_toArray, List.getElem_cons_succ, List.getElem_cons_zero, List.setIfInBounds_toArray, List.set_cons_zero, List.set_cons_succ]
      refine wpAnyH_take (i := 9) (v := .bool (!r)) rfl (by kernel_rfl) (by kernel_rfl) (by kernel_rfl) (fun _ _ _ h => h) (Or.inl ⟨by rfl, fun W _ => by go_simp⟩) hHeld2 ?_
      try simp only [Act.put, List.getElem_toArray, List.getElem_cons_succ, List.getElem_cons_zero, List.setIfInBounds_toArray, List.set_cons_zero, List.set_cons_succ]
      refine wpAnyH_done (by kernel_rfl) ?_ _
      cases r with
      | true =>
        go_wp2_with fail
        go_roundw
        case rel =>
          refine ⟨j + 1, by omega, by go_num, hHeld2, fun i hi hi2 hlt' => ?_⟩
          by_cases e : i = j
          · subst e; exact HR.out.symm
          · exact HA.out i hi hi2 (by omega)
        case measure => simp [intOf]; omega
      | false =>
        go_wp2_with fail
        go_ret
        exact ⟨by rw [eachSame_no l l2 j hlt hlt2 HR.out.symm]; rfl, hHeld2⟩
    · go_wp2_with fail
      go_ret
      exact ⟨by rw [eachSame_yes l l2 fun i h h2 => HA.out i h h2 (by omega)]; rfl, hb⟩

theorem eqRowAt (l l2 : List Val) (p p2 : Option Addr) (cap cap2 : Nat) (w : World) (hl : Held w (.slice p l.length cap) l) (hl2 : Held w (.slice p2 l2.length cap2) l2) (hn : l.length ≤ 2097152) (each : ∀ v ∈ l, SameZ v) :
    Calls Tryz.prog 16 #[.slice p l.length cap, .slice p2 l2.length cap2] w fun e w' => e = .returned (.bool ((l.length == l2.length) && eachSame l l2)) ∧ Below w.heap.size w w' := by
  by_cases h : l.length = l2.length
  · rw [show (l.length == l2.length) = true by simpa using h, Bool.true_and, ← h]
    cases l with
    | nil =>
      unfold eachSame
      exact eqRowNone _ _ _ _ _
    | cons v r =>
      cases l2 with
      | nil => simp at h
      | cons v2 r2 =>
        obtain ⟨g, off, rfl, hh⟩ := hl.form
        obtain ⟨g2, off2, rfl, hh2⟩ := hl2.form
        exact eqRowSome (v :: r) (v2 :: r2) g off cap g2 off2 cap2 w hh hh2 h.symm hn each
  · rw [show (l.length == l2.length) = false by simpa using h, Bool.false_and]
    exact eqRowLen p p2 _ _ cap cap2 w h

set_option maxHeartbeats 1600000 in
theorem sameZ_step (v : Val) (k : Int) (b : Bool) (n : Int) (t x : ByteArray) (q : List Val) (ev : v = .mk k b n t x q) (each : ∀ u ∈ q, SameZ u) : SameZ v := by
  subst ev
  intro W k1 b1 n1 t1 x1 q1 p cap v2 k2 b2 n2 t2 x2 q2 p2 cap2 e1 e2 hn hl hl2
  cases e1
  subst e2
  unfold sameP
  obtain ⟨c1, hc1⟩ : ∃ c1, c1 = Obj.cells #[.int .i64 k, .bool b, .int .i64 n, .string t, .string x, .slice p q.length cap] 26 := ⟨_, rfl⟩
  obtain ⟨c2, hc2⟩ : ∃ c2, c2 = Obj.cells #[.int .i64 k2, .bool b2, .int .i64 n2, .string t2, .string x2, .slice p2 q2.length cap2] 26 := ⟨_, rfl⟩
  have b0 := below2 W c1 c2
  have hc := eqRowAt q q2 p p2 cap cap2 ((W.alloc c1).alloc c2) (Held.below q hl b0) (Held.below q2 hl2 b0) hn each
  have l0 : Six ((W.alloc c1).alloc c2) W.heap.size k b n t x p q.length cap := by rw [hc1]; exact (six_new _ rfl).alloc _
  have l1 : Six ((W.alloc c1).alloc c2) (W.heap.size + 1) k2 b2 n2 t2 x2 p2 q2.length cap2 := by rw [hc2]; exact six_new _ (by simp)
  have z0 := b0.size
  have f0 := l0.c0
  have f1 := l0.c1
  have f2 := l0.c2
  have f3 := l0.c3
  have f4 := l0.c4
  have f5 := l0.c5
  have g0 := l1.c0
  have g1 := l1.c1
  have g2 := l1.c2
  have g3 := l1.c3
  have g4 := l1.c4
  have g5 := l1.c5
  clear l0 l1 hl hl2 each hn
  subst hc1 hc2
  cases a0 : (k == k2) with
  | false =>
    rw [Bool.false_and]
    go_enter Tryz.func8, Tryz.ntmps8
    go_wp2_with fail
    go_ret
    exact ⟨rfl, b0⟩
  | true =>
    rw [Bool.true_and]
    cases a1 : (b == b2) with
    | false =>
      rw [Bool.false_and]
      go_enter Tryz.func8, Tryz.ntmps8
      go_wp2_with fail
      go_ret
      exact ⟨rfl, b0⟩
    | true =>
      rw [Bool.true_and]
      cases a2 : (n == n2) with
      | false =>
        rw [Bool.false_and]
        go_enter Tryz.func8, Tryz.ntmps8
        go_wp2_with fail
        go_ret
        exact ⟨rfl, b0⟩
      | true =>
        rw [Bool.true_and]
        cases a3 : (t.toList == t2.toList) with
        | false =>
          rw [Bool.false_and]
          go_enter Tryz.func8, Tryz.ntmps8
          go_wp2_with fail
          go_ret
          exact ⟨rfl, b0⟩
        | true =>
          rw [Bool.true_and]
          cases a4 : (x.toList == x2.toList) with
          | false =>
            rw [Bool.false_and]
            go_enter Tryz.func8, Tryz.ntmps8
            go_wp2_with fail
            go_ret
            exact ⟨rfl, b0⟩
          | true =>
            rw [Bool.true_and]
            generalize (q.length == q2.length && eachSame q q2) = r at hc ⊢
            go_enter Tryz.func8, Tryz.ntmps8
            go_wp2_with (go_at_call 16; (with_reducible refine hc.mono ?_); rintro e w3 ⟨rfl, hb3⟩; replace b0 := below_any b0 hb3 z0)
            go_ret
            exact ⟨rfl, b0⟩

mutual
theorem sameZAll : (v : Val) → SameZ v
  | .mk k b n t x q => sameZ_step _ k b n t x q rfl (sameZEach q)
theorem sameZEach : (q : List Val) → ∀ u ∈ q, SameZ u
  | [], _, h => absurd h (by simp)
  | v :: r, u, h => by
    rcases List.mem_cons.1 h with h | h
    · rw [h]; exact sameZAll v
    · exact sameZEach r u h
end
end Go.Proofs.YtdnijfkiebpnpaaGreatDoor
