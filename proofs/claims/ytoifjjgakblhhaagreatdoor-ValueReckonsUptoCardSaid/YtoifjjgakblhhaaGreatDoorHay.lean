/- Texts of one kind, one behind the other: each says ahead of itself what it shows. -/
import Derived.Test.YtoifjjgakblhhaaGreatDoorHax
/- What two whole numbers make, by the document's own reckoning. -/
namespace Go.Proofs.YtoifjjgakblhhaaGreatDoor
open Go.RowKit


set_option maxRecDepth 20000 in
set_option maxHeartbeats 3200000 in
theorem rnAddYes (a b : Int) (a0 : -9223372036854775808 ≤ a) (a1 : a ≤ 9223372036854775807) (b0' : -9223372036854775808 ≤ b) (b1 : b ≤ 9223372036854775807) (hr : inI (a + b) = true) (w : World) :
    Calls Tryz.prog 103 #[.int .i64 17, .int .i64 a, .int .i64 b] w (RPost w (2) (a + b) ⟨#[]⟩ (0)) := by
  obtain ⟨W0, hW0⟩ : ∃ W0, W0 = w.alloc (.cells #[.int .i64 0, .bool false, .int .i64 0, .string ⟨#[]⟩, .string ⟨#[]⟩, .slice none 0 0] 28) := ⟨_, rfl⟩
  have S : Six W0 w.heap.size 0 false 0 ⟨#[]⟩ ⟨#[]⟩ none 0 0 := by rw [hW0]; exact six_new _ rfl
  have b0 : Below w.heap.size w W0 := by rw [hW0]; exact below1 _ _
  have hm : (a + b).natAbs < 10 ^ 39 := by omega
  obtain ⟨x1, x2, x3⟩ := wholeT_facts a (by omega)
  obtain ⟨y1, y2, y3⟩ := wholeT_facts b (by omega)
  have hx := fun W => refOfIntT a a0 a1 W
  have hy := fun W => refOfIntT b b0' b1 W
  have hz : ∀ W, Calls Tryz.prog 63 #[.string (wholeT a), .string (wholeT b)] W fun e w' => e = .returned (.tuple #[.string (wholeT (a + b)), .int .i64 0]) ∧ Below W.heap.size W w' := fun W =>
    refAddYes (wholeT a) (wholeT b) W (by omega) (by omega) x1 y1 (wholeT (a + b)) 0 (by rw [x2, y2, ← Int.add_mul]; exact wholeT_said _ hm)
  have ht := fun W => refToIntT (a + b) hm W
  rw [hr] at ht
  generalize wholeT a = A at hx hz
  generalize wholeT b = B at hy hz
  generalize wholeT (a + b) = C at hz ht
  clear hm x1 x2 x3 y1 y2 y3
  rw [if_pos rfl] at ht
  generalize a + b = m at ht ⊢
  have H0 := Lib.hid hW0
  clear hW0
  go_enter Tryz.func103, Tryz.ntmps103
  go_wp2_with (first
    | (go_at_call 41; (try rw [← H0.out]); (with_reducible refine (hx _).mono ?_); rintro e w' ⟨rfl, hb⟩; replace S := S.below hb; replace b0 := below_any b0 hb b0.size; clear hb)
    | (go_at_call 41; (try rw [← H0.out]); (with_reducible refine (hy _).mono ?_); rintro e w' ⟨rfl, hb⟩; replace S := S.below hb; replace b0 := below_any b0 hb b0.size; clear hb)
    | (go_at_call 63; (try rw [← H0.out]); (with_reducible refine (hz _).mono ?_); rintro e w' ⟨rfl, hb⟩; replace S := S.below hb; replace b0 := below_any b0 hb b0.size; clear hb)
    | (go_at_call 142; (try rw [← H0.out]); (with_reducible refine (ht _).mono ?_); rintro e w' ⟨rfl, hb⟩; replace S := S.below hb; replace b0 := below_any b0 hb b0.size; clear hb)
    | ((try rw [← H0.out]); (with_reducible refine wpList_store6 (k' := 2) (b' := false) (n' := m) (t' := ⟨#[]⟩) (x' := ⟨#[]⟩) (p' := none) (len' := 0) (cap' := 0) (.tmp 6) (.tmp 54) w.heap.size S ?_ ?_ ?_ ?_ ?_); rfl; rfl; rfl; rfl; intro w9 on9 S9))
  refine bodyPost_ret (results_six_tmp (p := 6) (q := 7) Tryz.results103 _ (.int .i64 (0)) rfl rfl S9) rfl ⟨rfl, below_only b0 on9 (Nat.le_refl _) b0.size⟩

set_option maxRecDepth 20000 in
set_option maxHeartbeats 3200000 in
theorem rnAddNo (a b : Int) (a0 : -9223372036854775808 ≤ a) (a1 : a ≤ 9223372036854775807) (b0' : -9223372036854775808 ≤ b) (b1 : b ≤ 9223372036854775807) (hr : inI (a + b) = false) (w : World) :
    Calls Tryz.prog 103 #[.int .i64 17, .int .i64 a, .int .i64 b] w (RPost w (0) (0) ⟨#[]⟩ (2)) := by
  obtain ⟨W0, hW0⟩ : ∃ W0, W0 = w.alloc (.cells #[.int .i64 0, .bool false, .int .i64 0, .string ⟨#[]⟩, .string ⟨#[]⟩, .slice none 0 0] 28) := ⟨_, rfl⟩
  have S : Six W0 w.heap.size 0 false 0 ⟨#[]⟩ ⟨#[]⟩ none 0 0 := by rw [hW0]; exact six_new _ rfl
  have b0 : Below w.heap.size w W0 := by rw [hW0]; exact below1 _ _
  have hm : (a + b).natAbs < 10 ^ 39 := by omega
  obtain ⟨x1, x2, x3⟩ := wholeT_facts a (by omega)
  obtain ⟨y1, y2, y3⟩ := wholeT_facts b (by omega)
  have hx := fun W => refOfIntT a a0 a1 W
  have hy := fun W => refOfIntT b b0' b1 W
  have hz : ∀ W, Calls Tryz.prog 63 #[.string (wholeT a), .string (wholeT b)] W fun e w' => e = .returned (.tuple #[.string (wholeT (a + b)), .int .i64 0]) ∧ Below W.heap.size W w' := fun W =>
    refAddYes (wholeT a) (wholeT b) W (by omega) (by omega) x1 y1 (wholeT (a + b)) 0 (by rw [x2, y2, ← Int.add_mul]; exact wholeT_said _ hm)
  have ht := fun W => refToIntT (a + b) hm W
  rw [hr] at ht
  generalize wholeT a = A at hx hz
  generalize wholeT b = B at hy hz
  generalize wholeT (a + b) = C at hz ht
  clear hm x1 x2 x3 y1 y2 y3
  rw [if_neg (by simp)] at ht
  have H0 := Lib.hid hW0
  clear hW0
  go_enter Tryz.func103, Tryz.ntmps103
  go_wp2_with (first
    | (go_at_call 41; (try rw [← H0.out]); (with_reducible refine (hx _).mono ?_); rintro e w' ⟨rfl, hb⟩; replace S := S.below hb; replace b0 := below_any b0 hb b0.size; clear hb)
    | (go_at_call 41; (try rw [← H0.out]); (with_reducible refine (hy _).mono ?_); rintro e w' ⟨rfl, hb⟩; replace S := S.below hb; replace b0 := below_any b0 hb b0.size; clear hb)
    | (go_at_call 63; (try rw [← H0.out]); (with_reducible refine (hz _).mono ?_); rintro e w' ⟨rfl, hb⟩; replace S := S.below hb; replace b0 := below_any b0 hb b0.size; clear hb)
    | (go_at_call 142; (try rw [← H0.out]); (with_reducible refine (ht _).mono ?_); rintro e w' ⟨rfl, hb⟩; replace S := S.below hb; replace b0 := below_any b0 hb b0.size; clear hb)
    | ((try rw [← H0.out]); (with_reducible refine wpList_store6 (k' := 0) (b' := false) (n' := 0) (t' := ⟨#[]⟩) (x' := ⟨#[]⟩) (p' := none) (len' := 0) (cap' := 0) (.tmp 6) (.tmp 52) w.heap.size S ?_ ?_ ?_ ?_ ?_); rfl; rfl; rfl; rfl; intro w9 on9 S9))
  refine bodyPost_ret (results_six_tmp (p := 6) (q := 7) Tryz.results103 _ (.int .i64 (2)) rfl rfl S9) rfl ⟨rfl, below_only b0 on9 (Nat.le_refl _) b0.size⟩

set_option maxRecDepth 20000 in
set_option maxHeartbeats 3200000 in
theorem rnSubYes (a b : Int) (a0 : -9223372036854775808 ≤ a) (a1 : a ≤ 9223372036854775807) (b0' : -9223372036854775808 ≤ b) (b1 : b ≤ 9223372036854775807) (hr : inI (a - b) = true) (w : World) :
    Calls Tryz.prog 103 #[.int .i64 18, .int .i64 a, .int .i64 b] w (RPost w (2) (a - b) ⟨#[]⟩ (0)) := by
  obtain ⟨W0, hW0⟩ : ∃ W0, W0 = w.alloc (.cells #[.int .i64 0, .bool false, .int .i64 0, .string ⟨#[]⟩, .string ⟨#[]⟩, .slice none 0 0] 28) := ⟨_, rfl⟩
  have S : Six W0 w.heap.size 0 false 0 ⟨#[]⟩ ⟨#[]⟩ none 0 0 := by rw [hW0]; exact six_new _ rfl
  have b0 : Below w.heap.size w W0 := by rw [hW0]; exact below1 _ _
  have hm : (a - b).natAbs < 10 ^ 39 := by omega
  obtain ⟨x1, x2, x3⟩ := wholeT_facts a (by omega)
  obtain ⟨y1, y2, y3⟩ := wholeT_facts b (by omega)
  have hx := fun W => refOfIntT a a0 a1 W
  have hy := fun W => refOfIntT b b0' b1 W
  have hz : ∀ W, Calls Tryz.prog 64 #[.string (wholeT a), .string (wholeT b)] W fun e w' => e = .returned (.tuple #[.string (wholeT (a - b)), .int .i64 0]) ∧ Below W.heap.size W w' := fun W =>
    refSubYes (wholeT a) (wholeT b) W (by omega) (by omega) x1 y1 (wholeT (a - b)) 0 (by rw [x2, y2, ← Int.sub_mul]; exact wholeT_said _ hm)
  have ht := fun W => refToIntT (a - b) hm W
  rw [hr] at ht
  generalize wholeT a = A at hx hz
  generalize wholeT b = B at hy hz
  generalize wholeT (a - b) = C at hz ht
  clear hm x1 x2 x3 y1 y2 y3
  rw [if_pos rfl] at ht
  generalize a - b = m at ht ⊢
  have H0 := Lib.hid hW0
  clear hW0
  go_enter Tryz.func103, Tryz.ntmps103
  go_wp2_with (first
    | (go_at_call 41; (try rw [← H0.out]); (with_reducible refine (hx _).mono ?_); rintro e w' ⟨rfl, hb⟩; replace S := S.below hb; replace b0 := below_any b0 hb b0.size; clear hb)
    | (go_at_call 41; (try rw [← H0.out]); (with_reducible refine (hy _).mono ?_); rintro e w' ⟨rfl, hb⟩; replace S := S.below hb; replace b0 := below_any b0 hb b0.size; clear hb)
    | (go_at_call 64; (try rw [← H0.out]); (with_reducible refine (hz _).mono ?_); rintro e w' ⟨rfl, hb⟩; replace S := S.below hb; replace b0 := below_any b0 hb b0.size; clear hb)
    | (go_at_call 142; (try rw [← H0.out]); (with_reducible refine (ht _).mono ?_); rintro e w' ⟨rfl, hb⟩; replace S := S.below hb; replace b0 := below_any b0 hb b0.size; clear hb)
    | ((try rw [← H0.out]); (with_reducible refine wpList_store6 (k' := 2) (b' := false) (n' := m) (t' := ⟨#[]⟩) (x' := ⟨#[]⟩) (p' := none) (len' := 0) (cap' := 0) (.tmp 6) (.tmp 54) w.heap.size S ?_ ?_ ?_ ?_ ?_); rfl; rfl; rfl; rfl; intro w9 on9 S9))
  refine bodyPost_ret (results_six_tmp (p := 6) (q := 7) Tryz.results103 _ (.int .i64 (0)) rfl rfl S9) rfl ⟨rfl, below_only b0 on9 (Nat.le_refl _) b0.size⟩

set_option maxRecDepth 20000 in
set_option maxHeartbeats 3200000 in
theorem rnSubNo (a b : Int) (a0 : -9223372036854775808 ≤ a) (a1 : a ≤ 9223372036854775807) (b0' : -9223372036854775808 ≤ b) (b1 : b ≤ 9223372036854775807) (hr : inI (a - b) = false) (w : World) :
    Calls Tryz.prog 103 #[.int .i64 18, .int .i64 a, .int .i64 b] w (RPost w (0) (0) ⟨#[]⟩ (2)) := by
  obtain ⟨W0, hW0⟩ : ∃ W0, W0 = w.alloc (.cells #[.int .i64 0, .bool false, .int .i64 0, .string ⟨#[]⟩, .string ⟨#[]⟩, .slice none 0 0] 28) := ⟨_, rfl⟩
  have S : Six W0 w.heap.size 0 false 0 ⟨#[]⟩ ⟨#[]⟩ none 0 0 := by rw [hW0]; exact six_new _ rfl
  have b0 : Below w.heap.size w W0 := by rw [hW0]; exact below1 _ _
  have hm : (a - b).natAbs < 10 ^ 39 := by omega
  obtain ⟨x1, x2, x3⟩ := wholeT_facts a (by omega)
  obtain ⟨y1, y2, y3⟩ := wholeT_facts b (by omega)
  have hx := fun W => refOfIntT a a0 a1 W
  have hy := fun W => refOfIntT b b0' b1 W
  have hz : ∀ W, Calls Tryz.prog 64 #[.string (wholeT a), .string (wholeT b)] W fun e w' => e = .returned (.tuple #[.string (wholeT (a - b)), .int .i64 0]) ∧ Below W.heap.size W w' := fun W =>
    refSubYes (wholeT a) (wholeT b) W (by omega) (by omega) x1 y1 (wholeT (a - b)) 0 (by rw [x2, y2, ← Int.sub_mul]; exact wholeT_said _ hm)
  have ht := fun W => refToIntT (a - b) hm W
  rw [hr] at ht
  generalize wholeT a = A at hx hz
  generalize wholeT b = B at hy hz
  generalize wholeT (a - b) = C at hz ht
  clear hm x1 x2 x3 y1 y2 y3
  rw [if_neg (by simp)] at ht
  have H0 := Lib.hid hW0
  clear hW0
  go_enter Tryz.func103, Tryz.ntmps103
  go_wp2_with (first
    | (go_at_call 41; (try rw [← H0.out]); (with_reducible refine (hx _).mono ?_); rintro e w' ⟨rfl, hb⟩; replace S := S.below hb; replace b0 := below_any b0 hb b0.size; clear hb)
    | (go_at_call 41; (try rw [← H0.out]); (with_reducible refine (hy _).mono ?_); rintro e w' ⟨rfl, hb⟩; replace S := S.below hb; replace b0 := below_any b0 hb b0.size; clear hb)
    | (go_at_call 64; (try rw [← H0.out]); (with_reducible refine (hz _).mono ?_); rintro e w' ⟨rfl, hb⟩; replace S := S.below hb; replace b0 := below_any b0 hb b0.size; clear hb)
    | (go_at_call 142; (try rw [← H0.out]); (with_reducible refine (ht _).mono ?_); rintro e w' ⟨rfl, hb⟩; replace S := S.below hb; replace b0 := below_any b0 hb b0.size; clear hb)
    | ((try rw [← H0.out]); (with_reducible refine wpList_store6 (k' := 0) (b' := false) (n' := 0) (t' := ⟨#[]⟩) (x' := ⟨#[]⟩) (p' := none) (len' := 0) (cap' := 0) (.tmp 6) (.tmp 52) w.heap.size S ?_ ?_ ?_ ?_ ?_); rfl; rfl; rfl; rfl; intro w9 on9 S9))
  refine bodyPost_ret (results_six_tmp (p := 6) (q := 7) Tryz.results103 _ (.int .i64 (2)) rfl rfl S9) rfl ⟨rfl, below_only b0 on9 (Nat.le_refl _) b0.size⟩

set_option maxRecDepth 20000 in
set_option maxHeartbeats 3200000 in
theorem rnMulYes (a b : Int) (a0 : -9223372036854775808 ≤ a) (a1 : a ≤ 9223372036854775807) (b0' : -9223372036854775808 ≤ b) (b1 : b ≤ 9223372036854775807) (hr : inI (a * b) = true) (w : World) :
    Calls Tryz.prog 103 #[.int .i64 19, .int .i64 a, .int .i64 b] w (RPost w (2) (a * b) ⟨#[]⟩ (0)) := by
  obtain ⟨W0, hW0⟩ : ∃ W0, W0 = w.alloc (.cells #[.int .i64 0, .bool false, .int .i64 0, .string ⟨#[]⟩, .string ⟨#[]⟩, .slice none 0 0] 28) := ⟨_, rfl⟩
  have S : Six W0 w.heap.size 0 false 0 ⟨#[]⟩ ⟨#[]⟩ none 0 0 := by rw [hW0]; exact six_new _ rfl
  have b0 : Below w.heap.size w W0 := by rw [hW0]; exact below1 _ _
  have hm : (a * b).natAbs < 10 ^ 39 := by rw [Int.natAbs_mul]; exact Nat.lt_of_le_of_lt (Nat.mul_le_mul (show a.natAbs ≤ 9223372036854775808 by omega) (show b.natAbs ≤ 9223372036854775808 by omega)) (by decide)
  obtain ⟨x1, x2, x3⟩ := wholeT_facts a (by omega)
  obtain ⟨y1, y2, y3⟩ := wholeT_facts b (by omega)
  have hx := fun W => refOfIntT a a0 a1 W
  have hy := fun W => refOfIntT b b0' b1 W
  have hz : ∀ W, Calls Tryz.prog 65 #[.string (wholeT a), .string (wholeT b)] W fun e w' => e = .returned (.tuple #[.string (wholeT (a * b)), .int .i64 0]) ∧ Below W.heap.size W w' := fun W =>
    refMulYes (wholeT a) (wholeT b) W (by omega) (by omega) x1 y1 (wholeT (a * b)) 0 (by rw [dmul_int x1 y1 x2 y2]; exact wholeT_said _ hm)
  have ht := fun W => refToIntT (a * b) hm W
  rw [hr] at ht
  generalize wholeT a = A at hx hz
  generalize wholeT b = B at hy hz
  generalize wholeT (a * b) = C at hz ht
  clear hm x1 x2 x3 y1 y2 y3
  rw [if_pos rfl] at ht
  generalize a * b = m at ht ⊢
  have H0 := Lib.hid hW0
  clear hW0
  go_enter Tryz.func103, Tryz.ntmps103
  go_wp2_with (first
    | (go_at_call 41; (try rw [← H0.out]); (with_reducible refine (hx _).mono ?_); rintro e w' ⟨rfl, hb⟩; replace S := S.below hb; replace b0 := below_any b0 hb b0.size; clear hb)
    | (go_at_call 41; (try rw [← H0.out]); (with_reducible refine (hy _).mono ?_); rintro e w' ⟨rfl, hb⟩; replace S := S.below hb; replace b0 := below_any b0 hb b0.size; clear hb)
    | (go_at_call 65; (try rw [← H0.out]); (with_reducible refine (hz _).mono ?_); rintro e w' ⟨rfl, hb⟩; replace S := S.below hb; replace b0 := below_any b0 hb b0.size; clear hb)
    | (go_at_call 142; (try rw [← H0.out]); (with_reducible refine (ht _).mono ?_); rintro e w' ⟨rfl, hb⟩; replace S := S.below hb; replace b0 := below_any b0 hb b0.size; clear hb)
    | ((try rw [← H0.out]); (with_reducible refine wpList_store6 (k' := 2) (b' := false) (n' := m) (t' := ⟨#[]⟩) (x' := ⟨#[]⟩) (p' := none) (len' := 0) (cap' := 0) (.tmp 6) (.tmp 54) w.heap.size S ?_ ?_ ?_ ?_ ?_); rfl; rfl; rfl; rfl; intro w9 on9 S9))
  refine bodyPost_ret (results_six_tmp (p := 6) (q := 7) Tryz.results103 _ (.int .i64 (0)) rfl rfl S9) rfl ⟨rfl, below_only b0 on9 (Nat.le_refl _) b0.size⟩

set_option maxRecDepth 20000 in
set_option maxHeartbeats 3200000 in
theorem rnMulNo (a b : Int) (a0 : -9223372036854775808 ≤ a) (a1 : a ≤ 9223372036854775807) (b0' : -9223372036854775808 ≤ b) (b1 : b ≤ 9223372036854775807) (hr : inI (a * b) = false) (w : World) :
    Calls Tryz.prog 103 #[.int .i64 19, .int .i64 a, .int .i64 b] w (RPost w (0) (0) ⟨#[]⟩ (2)) := by
  obtain ⟨W0, hW0⟩ : ∃ W0, W0 = w.alloc (.cells #[.int .i64 0, .bool false, .int .i64 0, .string ⟨#[]⟩, .string ⟨#[]⟩, .slice none 0 0] 28) := ⟨_, rfl⟩
  have S : Six W0 w.heap.size 0 false 0 ⟨#[]⟩ ⟨#[]⟩ none 0 0 := by rw [hW0]; exact six_new _ rfl
  have b0 : Below w.heap.size w W0 := by rw [hW0]; exact below1 _ _
  have hm : (a * b).natAbs < 10 ^ 39 := by rw [Int.natAbs_mul]; exact Nat.lt_of_le_of_lt (Nat.mul_le_mul (show a.natAbs ≤ 9223372036854775808 by omega) (show b.natAbs ≤ 9223372036854775808 by omega)) (by decide)
  obtain ⟨x1, x2, x3⟩ := wholeT_facts a (by omega)
  obtain ⟨y1, y2, y3⟩ := wholeT_facts b (by omega)
  have hx := fun W => refOfIntT a a0 a1 W
  have hy := fun W => refOfIntT b b0' b1 W
  have hz : ∀ W, Calls Tryz.prog 65 #[.string (wholeT a), .string (wholeT b)] W fun e w' => e = .returned (.tuple #[.string (wholeT (a * b)), .int .i64 0]) ∧ Below W.heap.size W w' := fun W =>
    refMulYes (wholeT a) (wholeT b) W (by omega) (by omega) x1 y1 (wholeT (a * b)) 0 (by rw [dmul_int x1 y1 x2 y2]; exact wholeT_said _ hm)
  have ht := fun W => refToIntT (a * b) hm W
  rw [hr] at ht
  generalize wholeT a = A at hx hz
  generalize wholeT b = B at hy hz
  generalize wholeT (a * b) = C at hz ht
  clear hm x1 x2 x3 y1 y2 y3
  rw [if_neg (by simp)] at ht
  have H0 := Lib.hid hW0
  clear hW0
  go_enter Tryz.func103, Tryz.ntmps103
  go_wp2_with (first
    | (go_at_call 41; (try rw [← H0.out]); (with_reducible refine (hx _).mono ?_); rintro e w' ⟨rfl, hb⟩; replace S := S.below hb; replace b0 := below_any b0 hb b0.size; clear hb)
    | (go_at_call 41; (try rw [← H0.out]); (with_reducible refine (hy _).mono ?_); rintro e w' ⟨rfl, hb⟩; replace S := S.below hb; replace b0 := below_any b0 hb b0.size; clear hb)
    | (go_at_call 65; (try rw [← H0.out]); (with_reducible refine (hz _).mono ?_); rintro e w' ⟨rfl, hb⟩; replace S := S.below hb; replace b0 := below_any b0 hb b0.size; clear hb)
    | (go_at_call 142; (try rw [← H0.out]); (with_reducible refine (ht _).mono ?_); rintro e w' ⟨rfl, hb⟩; replace S := S.below hb; replace b0 := below_any b0 hb b0.size; clear hb)
    | ((try rw [← H0.out]); (with_reducible refine wpList_store6 (k' := 0) (b' := false) (n' := 0) (t' := ⟨#[]⟩) (x' := ⟨#[]⟩) (p' := none) (len' := 0) (cap' := 0) (.tmp 6) (.tmp 52) w.heap.size S ?_ ?_ ?_ ?_ ?_); rfl; rfl; rfl; rfl; intro w9 on9 S9))
  refine bodyPost_ret (results_six_tmp (p := 6) (q := 7) Tryz.results103 _ (.int .i64 (2)) rfl rfl S9) rfl ⟨rfl, below_only b0 on9 (Nat.le_refl _) b0.size⟩
end Go.Proofs.YtoifjjgakblhhaaGreatDoor

/- What two whole numbers make, by the document's own reckoning: all operations. -/
namespace Go.Proofs.YtoifjjgakblhhaaGreatDoor
open Go.RowKit


set_option maxRecDepth 20000 in
set_option maxHeartbeats 3200000 in
theorem tiCall17 (lang a b : Int) (k9 n9 : Int) (t9 : ByteArray) (e9 : Int) (w : World) (hc : ∀ W, Below w.heap.size w W → Calls Tryz.prog 103 #[.int .i64 17, .int .i64 a, .int .i64 b] W (RPost W k9 n9 t9 e9)) :
    Calls Tryz.prog 61 #[.int .i64 lang, .int .i64 17, .int .i64 a, .int .i64 b] w (RPost w (k9) (n9) t9 (e9)) := by
  obtain ⟨W0, hW0⟩ : ∃ W0, W0 = w.alloc (.cells #[.int .i64 0, .bool false, .int .i64 0, .string ⟨#[]⟩, .string ⟨#[]⟩, .slice none 0 0] 28) := ⟨_, rfl⟩
  have S : Six W0 w.heap.size 0 false 0 ⟨#[]⟩ ⟨#[]⟩ none 0 0 := by rw [hW0]; exact six_new _ rfl
  have b0 : Below w.heap.size w W0 := by rw [hW0]; exact below1 _ _
  unfold RPost at hc
  have H0 := Lib.hid hW0
  clear hW0
  go_enter Tryz.func61, Tryz.ntmps61
  go_wp2_with (first
    | (go_at_call 103; (try rw [← H0.out]); (with_reducible refine (hc _ b0).mono ?_); rintro e w' ⟨rfl, hb⟩; replace S := S.below hb; replace b0 := below_any b0 hb b0.size; clear hb)
    | ((try rw [← H0.out]); (with_reducible refine wpList_store6 (k' := k9) (b' := false) (n' := n9) (t' := t9) (x' := ⟨#[]⟩) (p' := none) (len' := 0) (cap' := 0) (.tmp 8) (.tmp 20) w.heap.size S ?_ ?_ ?_ ?_ ?_); rfl; rfl; rfl; rfl; intro w9 on9 S9))
  refine bodyPost_ret (results_six_tmp (p := 8) (q := 9) Tryz.results61 _ (.int .i64 (e9)) rfl rfl S9) rfl ⟨rfl, below_only b0 on9 (Nat.le_refl _) b0.size⟩

set_option maxRecDepth 20000 in
set_option maxHeartbeats 3200000 in
theorem tiCall18 (lang a b : Int) (k9 n9 : Int) (t9 : ByteArray) (e9 : Int) (w : World) (hc : ∀ W, Below w.heap.size w W → Calls Tryz.prog 103 #[.int .i64 18, .int .i64 a, .int .i64 b] W (RPost W k9 n9 t9 e9)) :
    Calls Tryz.prog 61 #[.int .i64 lang, .int .i64 18, .int .i64 a, .int .i64 b] w (RPost w (k9) (n9) t9 (e9)) := by
  obtain ⟨W0, hW0⟩ : ∃ W0, W0 = w.alloc (.cells #[.int .i64 0, .bool false, .int .i64 0, .string ⟨#[]⟩, .string ⟨#[]⟩, .slice none 0 0] 28) := ⟨_, rfl⟩
  have S : Six W0 w.heap.size 0 false 0 ⟨#[]⟩ ⟨#[]⟩ none 0 0 := by rw [hW0]; exact six_new _ rfl
  have b0 : Below w.heap.size w W0 := by rw [hW0]; exact below1 _ _
  unfold RPost at hc
  have H0 := Lib.hid hW0
  clear hW0
  go_enter Tryz.func61, Tryz.ntmps61
  go_wp2_with (first
    | (go_at_call 103; (try rw [← H0.out]); (with_reducible refine (hc _ b0).mono ?_); rintro e w' ⟨rfl, hb⟩; replace S := S.below hb; replace b0 := below_any b0 hb b0.size; clear hb)
    | ((try rw [← H0.out]); (with_reducible refine wpList_store6 (k' := k9) (b' := false) (n' := n9) (t' := t9) (x' := ⟨#[]⟩) (p' := none) (len' := 0) (cap' := 0) (.tmp 8) (.tmp 20) w.heap.size S ?_ ?_ ?_ ?_ ?_); rfl; rfl; rfl; rfl; intro w9 on9 S9))
  refine bodyPost_ret (results_six_tmp (p := 8) (q := 9) Tryz.results61 _ (.int .i64 (e9)) rfl rfl S9) rfl ⟨rfl, below_only b0 on9 (Nat.le_refl _) b0.size⟩

set_option maxRecDepth 20000 in
set_option maxHeartbeats 3200000 in
theorem tiCall19 (lang a b : Int) (k9 n9 : Int) (t9 : ByteArray) (e9 : Int) (w : World) (hc : ∀ W, Below w.heap.size w W → Calls Tryz.prog 103 #[.int .i64 19, .int .i64 a, .int .i64 b] W (RPost W k9 n9 t9 e9)) :
    Calls Tryz.prog 61 #[.int .i64 lang, .int .i64 19, .int .i64 a, .int .i64 b] w (RPost w (k9) (n9) t9 (e9)) := by
  obtain ⟨W0, hW0⟩ : ∃ W0, W0 = w.alloc (.cells #[.int .i64 0, .bool false, .int .i64 0, .string ⟨#[]⟩, .string ⟨#[]⟩, .slice none 0 0] 28) := ⟨_, rfl⟩
  have S : Six W0 w.heap.size 0 false 0 ⟨#[]⟩ ⟨#[]⟩ none 0 0 := by rw [hW0]; exact six_new _ rfl
  have b0 : Below w.heap.size w W0 := by rw [hW0]; exact below1 _ _
  unfold RPost at hc
  have H0 := Lib.hid hW0
  clear hW0
  go_enter Tryz.func61, Tryz.ntmps61
  go_wp2_with (first
    | (go_at_call 103; (try rw [← H0.out]); (with_reducible refine (hc _ b0).mono ?_); rintro e w' ⟨rfl, hb⟩; replace S := S.below hb; replace b0 := below_any b0 hb b0.size; clear hb)
    | ((try rw [← H0.out]); (with_reducible refine wpList_store6 (k' := k9) (b' := false) (n' := n9) (t' := t9) (x' := ⟨#[]⟩) (p' := none) (len' := 0) (cap' := 0) (.tmp 8) (.tmp 20) w.heap.size S ?_ ?_ ?_ ?_ ?_); rfl; rfl; rfl; rfl; intro w9 on9 S9))
  refine bodyPost_ret (results_six_tmp (p := 8) (q := 9) Tryz.results61 _ (.int .i64 (e9)) rfl rfl S9) rfl ⟨rfl, below_only b0 on9 (Nat.le_refl _) b0.size⟩

set_option maxRecDepth 20000 in
set_option maxHeartbeats 3200000 in
theorem tiZero20 (lang a : Int) (w : World) :
    Calls Tryz.prog 61 #[.int .i64 lang, .int .i64 20, .int .i64 a, .int .i64 0] w (RPost w (0) (0) ⟨#[]⟩ (3)) := by
  obtain ⟨W0, hW0⟩ : ∃ W0, W0 = w.alloc (.cells #[.int .i64 0, .bool false, .int .i64 0, .string ⟨#[]⟩, .string ⟨#[]⟩, .slice none 0 0] 28) := ⟨_, rfl⟩
  have S : Six W0 w.heap.size 0 false 0 ⟨#[]⟩ ⟨#[]⟩ none 0 0 := by rw [hW0]; exact six_new _ rfl
  have b0 : Below w.heap.size w W0 := by rw [hW0]; exact below1 _ _
  have H0 := Lib.hid hW0
  clear hW0
  go_enter Tryz.func61, Tryz.ntmps61
  go_wp2_with (first
    | ((try rw [← H0.out]); (with_reducible refine wpList_store6 (k' := 0) (b' := false) (n' := 0) (t' := ⟨#[]⟩) (x' := ⟨#[]⟩) (p' := none) (len' := 0) (cap' := 0) (.tmp 8) (.tmp 24) w.heap.size S ?_ ?_ ?_ ?_ ?_); rfl; rfl; rfl; rfl; intro w9 on9 S9))
  refine bodyPost_ret (results_six_tmp (p := 8) (q := 9) Tryz.results61 _ (.int .i64 (3)) rfl rfl S9) rfl ⟨rfl, below_only b0 on9 (Nat.le_refl _) b0.size⟩

set_option maxRecDepth 20000 in
set_option maxHeartbeats 3200000 in
theorem tiZero21 (lang a : Int) (w : World) :
    Calls Tryz.prog 61 #[.int .i64 lang, .int .i64 21, .int .i64 a, .int .i64 0] w (RPost w (0) (0) ⟨#[]⟩ (3)) := by
  obtain ⟨W0, hW0⟩ : ∃ W0, W0 = w.alloc (.cells #[.int .i64 0, .bool false, .int .i64 0, .string ⟨#[]⟩, .string ⟨#[]⟩, .slice none 0 0] 28) := ⟨_, rfl⟩
  have S : Six W0 w.heap.size 0 false 0 ⟨#[]⟩ ⟨#[]⟩ none 0 0 := by rw [hW0]; exact six_new _ rfl
  have b0 : Below w.heap.size w W0 := by rw [hW0]; exact below1 _ _
  have H0 := Lib.hid hW0
  clear hW0
  go_enter Tryz.func61, Tryz.ntmps61
  go_wp2_with (first
    | ((try rw [← H0.out]); (with_reducible refine wpList_store6 (k' := 0) (b' := false) (n' := 0) (t' := ⟨#[]⟩) (x' := ⟨#[]⟩) (p' := none) (len' := 0) (cap' := 0) (.tmp 8) (.tmp 24) w.heap.size S ?_ ?_ ?_ ?_ ?_); rfl; rfl; rfl; rfl; intro w9 on9 S9))
  refine bodyPost_ret (results_six_tmp (p := 8) (q := 9) Tryz.results61 _ (.int .i64 (3)) rfl rfl S9) rfl ⟨rfl, below_only b0 on9 (Nat.le_refl _) b0.size⟩

set_option maxRecDepth 20000 in
set_option maxHeartbeats 3200000 in
theorem tiDivS (a b : Int) (hb0 : (b == 0) = false) (k9 n9 : Int) (t9 : ByteArray) (e9 : Int) (s s2 X : ByteArray) (c : Int) (w : World) (hx : ∀ W, Below w.heap.size w W → Calls Tryz.prog 41 #[.int .i64 a] W fun e w' => e = .returned (.string s) ∧ Below W.heap.size W w') (hy : ∀ W, Below w.heap.size w W → Calls Tryz.prog 41 #[.int .i64 b] W fun e w' => e = .returned (.string s2) ∧ Below W.heap.size W w') (hz : ∀ W, Below w.heap.size w W → Calls Tryz.prog 66 #[.string s, .string s2] W fun e w' => e = .returned (.tuple #[.string X, .int .i64 c]) ∧ Below W.heap.size W w') (hd : ∀ W, Below w.heap.size w W → Calls Tryz.prog 62 #[.string X, .int .i64 c] W (RPost W k9 n9 t9 e9)) :
    Calls Tryz.prog 61 #[.int .i64 1, .int .i64 20, .int .i64 a, .int .i64 b] w (RPost w (k9) (n9) t9 (e9)) := by
  obtain ⟨W0, hW0⟩ : ∃ W0, W0 = w.alloc (.cells #[.int .i64 0, .bool false, .int .i64 0, .string ⟨#[]⟩, .string ⟨#[]⟩, .slice none 0 0] 28) := ⟨_, rfl⟩
  have S : Six W0 w.heap.size 0 false 0 ⟨#[]⟩ ⟨#[]⟩ none 0 0 := by rw [hW0]; exact six_new _ rfl
  have b0 : Below w.heap.size w W0 := by rw [hW0]; exact below1 _ _
  unfold RPost at hd
  have H0 := Lib.hid hW0
  clear hW0
  go_enter Tryz.func61, Tryz.ntmps61
  go_wp2_with (first
    | (go_at_call 41; (try rw [← H0.out]); (with_reducible refine (hx _ b0).mono ?_); rintro e w' ⟨rfl, hb⟩; replace S := S.below hb; replace b0 := below_any b0 hb b0.size; clear hb)
    | (go_at_call 41; (try rw [← H0.out]); (with_reducible refine (hy _ b0).mono ?_); rintro e w' ⟨rfl, hb⟩; replace S := S.below hb; replace b0 := below_any b0 hb b0.size; clear hb)
    | (go_at_call 66; (try rw [← H0.out]); (with_reducible refine (hz _ b0).mono ?_); rintro e w' ⟨rfl, hb⟩; replace S := S.below hb; replace b0 := below_any b0 hb b0.size; clear hb)
    | (go_at_call 62; (try rw [← H0.out]); (with_reducible refine (hd _ b0).mono ?_); rintro e w' ⟨rfl, hb⟩; replace S := S.below hb; replace b0 := below_any b0 hb b0.size; clear hb)
    | ((try rw [← H0.out]); (with_reducible refine wpList_store6 (k' := k9) (b' := false) (n' := n9) (t' := t9) (x' := ⟨#[]⟩) (p' := none) (len' := 0) (cap' := 0) (.tmp 8) (.tmp 39) w.heap.size S ?_ ?_ ?_ ?_ ?_); rfl; rfl; rfl; rfl; intro w9 on9 S9))
  refine bodyPost_ret (results_six_tmp (p := 8) (q := 9) Tryz.results61 _ (.int .i64 (e9)) rfl rfl S9) rfl ⟨rfl, below_only b0 on9 (Nat.le_refl _) b0.size⟩

set_option maxRecDepth 20000 in
set_option maxHeartbeats 3200000 in
theorem tiRemNeg (lang a : Int) (w : World) :
    Calls Tryz.prog 61 #[.int .i64 lang, .int .i64 21, .int .i64 a, .int .i64 (-1)] w (RPost w (2) (0) ⟨#[]⟩ (0)) := by
  obtain ⟨W0, hW0⟩ : ∃ W0, W0 = w.alloc (.cells #[.int .i64 0, .bool false, .int .i64 0, .string ⟨#[]⟩, .string ⟨#[]⟩, .slice none 0 0] 28) := ⟨_, rfl⟩
  have S : Six W0 w.heap.size 0 false 0 ⟨#[]⟩ ⟨#[]⟩ none 0 0 := by rw [hW0]; exact six_new _ rfl
  have b0 : Below w.heap.size w W0 := by rw [hW0]; exact below1 _ _
  have H0 := Lib.hid hW0
  clear hW0
  go_enter Tryz.func61, Tryz.ntmps61
  go_wp2_with (first
    | ((try rw [← H0.out]); (with_reducible refine wpList_store6 (k' := 2) (b' := false) (n' := 0) (t' := ⟨#[]⟩) (x' := ⟨#[]⟩) (p' := none) (len' := 0) (cap' := 0) (.tmp 8) (.tmp 45) w.heap.size S ?_ ?_ ?_ ?_ ?_); rfl; rfl; rfl; rfl; intro w9 on9 S9))
  refine bodyPost_ret (results_six_tmp (p := 8) (q := 9) Tryz.results61 _ (.int .i64 (0)) rfl rfl S9) rfl ⟨rfl, below_only b0 on9 (Nat.le_refl _) b0.size⟩

set_option maxRecDepth 20000 in
set_option maxHeartbeats 3200000 in
theorem tiQuoNeg (lang a : Int) (hl : (lang == 1) = false) (k9 n9 : Int) (t9 : ByteArray) (e9 : Int) (w : World) (hc : ∀ W, Below w.heap.size w W → Calls Tryz.prog 103 #[.int .i64 18, .int .i64 0, .int .i64 a] W (RPost W k9 n9 t9 e9)) :
    Calls Tryz.prog 61 #[.int .i64 lang, .int .i64 20, .int .i64 a, .int .i64 (-1)] w (RPost w (k9) (n9) t9 (e9)) := by
  obtain ⟨W0, hW0⟩ : ∃ W0, W0 = w.alloc (.cells #[.int .i64 0, .bool false, .int .i64 0, .string ⟨#[]⟩, .string ⟨#[]⟩, .slice none 0 0] 28) := ⟨_, rfl⟩
  have S : Six W0 w.heap.size 0 false 0 ⟨#[]⟩ ⟨#[]⟩ none 0 0 := by rw [hW0]; exact six_new _ rfl
  have b0 : Below w.heap.size w W0 := by rw [hW0]; exact below1 _ _
  unfold RPost at hc
  have H0 := Lib.hid hW0
  clear hW0
  go_enter Tryz.func61, Tryz.ntmps61
  go_wp2_with (first
    | (go_at_call 103; (try rw [← H0.out]); (with_reducible refine (hc _ b0).mono ?_); rintro e w' ⟨rfl, hb⟩; replace S := S.below hb; replace b0 := below_any b0 hb b0.size; clear hb)
    | ((try rw [← H0.out]); (with_reducible refine wpList_store6 (k' := k9) (b' := false) (n' := n9) (t' := t9) (x' := ⟨#[]⟩) (p' := none) (len' := 0) (cap' := 0) (.tmp 8) (.tmp 48) w.heap.size S ?_ ?_ ?_ ?_ ?_); rfl; rfl; rfl; rfl; intro w9 on9 S9))
  refine bodyPost_ret (results_six_tmp (p := 8) (q := 9) Tryz.results61 _ (.int .i64 (e9)) rfl rfl S9) rfl ⟨rfl, below_only b0 on9 (Nat.le_refl _) b0.size⟩

set_option maxRecDepth 20000 in
set_option maxHeartbeats 3200000 in
theorem tiRem (lang a b : Int) (h0 : ¬ b = 0) (hb0 : (b == 0) = false) (hb1 : (b == -1) = false) (w : World) :
    Calls Tryz.prog 61 #[.int .i64 lang, .int .i64 21, .int .i64 a, .int .i64 b] w (RPost w (2) (a.tmod b) ⟨#[]⟩ (0)) := by
  obtain ⟨W0, hW0⟩ : ∃ W0, W0 = w.alloc (.cells #[.int .i64 0, .bool false, .int .i64 0, .string ⟨#[]⟩, .string ⟨#[]⟩, .slice none 0 0] 28) := ⟨_, rfl⟩
  have S : Six W0 w.heap.size 0 false 0 ⟨#[]⟩ ⟨#[]⟩ none 0 0 := by rw [hW0]; exact six_new _ rfl
  have b0 : Below w.heap.size w W0 := by rw [hW0]; exact below1 _ _
  have H0 := Lib.hid hW0
  clear hW0
  go_enter Tryz.func61, Tryz.ntmps61
  go_wp2_with (first
    | ((try rw [← H0.out]); (with_reducible refine wpList_store6 (k' := 2) (b' := false) (n' := (a.tmod b)) (t' := ⟨#[]⟩) (x' := ⟨#[]⟩) (p' := none) (len' := 0) (cap' := 0) (.tmp 8) (.tmp 55) w.heap.size S ?_ ?_ ?_ ?_ ?_); rfl; rfl; rfl; rfl; intro w9 on9 S9))
  refine bodyPost_ret (results_six_tmp (p := 8) (q := 9) Tryz.results61 _ (.int .i64 (0)) rfl rfl S9) rfl ⟨rfl, below_only b0 on9 (Nat.le_refl _) b0.size⟩

set_option maxRecDepth 20000 in
set_option maxHeartbeats 3200000 in
theorem tiQuo (lang a b : Int) (h0 : ¬ b = 0) (hb0 : (b == 0) = false) (hb1 : (b == -1) = false) (hl : (lang == 1) = false) (w : World) :
    Calls Tryz.prog 61 #[.int .i64 lang, .int .i64 20, .int .i64 a, .int .i64 b] w (RPost w (2) (wrap64 (a.tdiv b)) ⟨#[]⟩ (0)) := by
  obtain ⟨W0, hW0⟩ : ∃ W0, W0 = w.alloc (.cells #[.int .i64 0, .bool false, .int .i64 0, .string ⟨#[]⟩, .string ⟨#[]⟩, .slice none 0 0] 28) := ⟨_, rfl⟩
  have S : Six W0 w.heap.size 0 false 0 ⟨#[]⟩ ⟨#[]⟩ none 0 0 := by rw [hW0]; exact six_new _ rfl
  have b0 : Below w.heap.size w W0 := by rw [hW0]; exact below1 _ _
  have H0 := Lib.hid hW0
  clear hW0
  go_enter Tryz.func61, Tryz.ntmps61
  go_wp2_with (first
    | ((try rw [← H0.out]); (with_reducible refine wpList_store6 (k' := 2) (b' := false) (n' := (wrap64 (a.tdiv b))) (t' := ⟨#[]⟩) (x' := ⟨#[]⟩) (p' := none) (len' := 0) (cap' := 0) (.tmp 8) (.tmp 59) w.heap.size S ?_ ?_ ?_ ?_ ?_); rfl; rfl; rfl; rfl; intro w9 on9 S9))
  refine bodyPost_ret (results_six_tmp (p := 8) (q := 9) Tryz.results61 _ (.int .i64 (0)) rfl rfl S9) rfl ⟨rfl, below_only b0 on9 (Nat.le_refl _) b0.size⟩
end Go.Proofs.YtoifjjgakblhhaaGreatDoor

/- A number's one text; what two decimals make, on both sides. -/
namespace Go.Proofs.YtoifjjgakblhhaaGreatDoor
open Go.RowKit

theorem says_one {s s2 : ByteArray} (h : chk s.data.toList = true) (h2 : chk s2.data.toList = true) (e : dval s.data.toList = dval s2.data.toList) : s = s2 := by
  have a := (chk_dec _ h).1
  have b := (chk_dec _ h2).1
  rw [e, b] at a
  injection a with a
  exact bytes_ext a.symm
theorem numText (k n : Int) (t : ByteArray) (lo : -9223372036854775808 ≤ n) (hi : n ≤ 9223372036854775807) (ht : t.size ≤ 2097152) : ∃ s, SaysR (numV k n t) s ∧ (k = 2 → s = wholeT n) := by
  by_cases h2 : k = 2
  · subst h2
    obtain ⟨a1, a2, a3⟩ := wholeT_facts n (by omega)
    refine ⟨wholeT n, ⟨a1, ?_, by omega⟩, fun _ => rfl⟩
    rw [a2]
    unfold numV
    rw [if_pos rfl]
  · by_cases hk : chk t.data.toList = true
    · refine ⟨t, ⟨hk, ?_, by omega⟩, fun h => absurd h h2⟩
      unfold numV
      rw [if_neg h2, if_pos hk]
    · refine ⟨⟨#[48, 46, 48]⟩, ?_, fun h => absurd h h2⟩
      have e : numV k n t = 0 := by unfold numV; rw [if_neg h2, if_neg hk]
      rw [e]
      exact zeroSays
theorem asDecOne (k : Int) (b : Bool) (n : Int) (t x : ByteArray) (p : Option Addr) (len cap : Nat) (s : ByteArray) (hs : SaysR (numV k n t) s) (W : World) (hG : Gd W) (hT : Tab W) (hf : Fine n t x len) :
    Calls Tryz.prog 92 #[.agg #[.int .i64 k, .bool b, .int .i64 n, .string t, .string x, .slice p len cap]] W fun e w' => e = .returned (.string s) ∧ Below W.heap.size W w' := by
  refine (asDecimalAt k b n t x p len cap W hG hT hf).mono ?_
  rintro e w' ⟨s2, rfl, h2, hb⟩
  rw [says_one h2.1 hs.1 (h2.2.1.trans hs.2.1.symm)]
  exact ⟨rfl, hb⟩
theorem refDecOne (k : Int) (b : Bool) (n : Int) (t x : ByteArray) (p : Option Addr) (len cap : Nat) (s : ByteArray) (hs : SaysR (numV k n t) s) (W : World) (hf : Fine n t x len) :
    Calls Tryz.prog 48 #[.agg #[.int .i64 k, .bool b, .int .i64 n, .string t, .string x, .slice p len cap]] W fun e w' => e = .returned (.string s) ∧ Below W.heap.size W w' := by
  refine (refDecAt k b n t x p len cap W hf).mono ?_
  rintro e w' ⟨s2, rfl, h2, hb⟩
  rw [says_one h2.1 hs.1 (h2.2.1.trans hs.2.1.symm)]
  exact ⟨rfl, hb⟩
/-- One operation on decimals: the program's number is f, the document's is g. -/
def Dec2 (op : Int) (g : Nat) (s s2 : ByteArray) : Prop := ∃ (X : ByteArray) (c k9 n9 : Int) (t9 : ByteArray) (e9 : Int),
  (∀ W, Gd W → Calls Tryz.prog 102 #[.int .i64 op, .string s, .string s2] W (RPost W k9 n9 t9 e9)) ∧
  (∀ W, Calls Tryz.prog g #[.string s, .string s2] W fun e w' => e = .returned (.tuple #[.string X, .int .i64 c]) ∧ Below W.heap.size W w') ∧
  (∀ W, Calls Tryz.prog 62 #[.string X, .int .i64 c] W (RPost W k9 n9 t9 e9))
theorem decAdd {z z2 : Int} {s s2 : ByteArray} (h : SaysR z s) (h2 : SaysR z2 s2) : Dec2 17 63 s s2 := by
  obtain ⟨X, c, hv⟩ := said_form (txt (dval s.data.toList + dval s2.data.toList))
  have l1 := h.2.2
  have l2 := h2.2.2
  by_cases hc : c = 0
  · exact ⟨X, c, 3, 0, X, 0, fun W hW => rdAddYes s s2 X c hc W (fun W' hb => addYes s s2 W' (hW.below hb) (by omega) (by omega) h.1 h2.1 X c hv), fun W => refAddYes s s2 W l1 l2 h.1 h2.1 X c hv, fun W => by rw [hc]; exact wholeYes X W⟩
  · exact ⟨X, c, 0, 0, ⟨#[]⟩, c, fun W hW => rdAddNo s s2 X c hc W (fun W' hb => addYes s s2 W' (hW.below hb) (by omega) (by omega) h.1 h2.1 X c hv), fun W => refAddYes s s2 W l1 l2 h.1 h2.1 X c hv, fun W => wholeNo X c hc W⟩
theorem decSub {z z2 : Int} {s s2 : ByteArray} (h : SaysR z s) (h2 : SaysR z2 s2) : Dec2 18 64 s s2 := by
  obtain ⟨X, c, hv⟩ := said_form (txt (dval s.data.toList - dval s2.data.toList))
  have l1 := h.2.2
  have l2 := h2.2.2
  by_cases hc : c = 0
  · exact ⟨X, c, 3, 0, X, 0, fun W hW => rdSubYes s s2 X c hc W (fun W' hb => subYes s s2 W' (hW.below hb) (by omega) (by omega) h.1 h2.1 X c hv), fun W => refSubYes s s2 W l1 l2 h.1 h2.1 X c hv, fun W => by rw [hc]; exact wholeYes X W⟩
  · exact ⟨X, c, 0, 0, ⟨#[]⟩, c, fun W hW => rdSubNo s s2 X c hc W (fun W' hb => subYes s s2 W' (hW.below hb) (by omega) (by omega) h.1 h2.1 X c hv), fun W => refSubYes s s2 W l1 l2 h.1 h2.1 X c hv, fun W => wholeNo X c hc W⟩
theorem decMul {z z2 : Int} {s s2 : ByteArray} (h : SaysR z s) (h2 : SaysR z2 s2) : Dec2 19 65 s s2 := by
  obtain ⟨X, c, hv⟩ := said_form (txt (dmul s.data.toList s2.data.toList))
  have l1 := h.2.2
  have l2 := h2.2.2
  by_cases hc : c = 0
  · exact ⟨X, c, 3, 0, X, 0, fun W hW => rdMulYes s s2 X c hc W (fun W' hb => mulYes s s2 W' (hW.below hb) (by omega) (by omega) h.1 h2.1 X c hv), fun W => refMulYes s s2 W l1 l2 h.1 h2.1 X c hv, fun W => by rw [hc]; exact wholeYes X W⟩
  · exact ⟨X, c, 0, 0, ⟨#[]⟩, c, fun W hW => rdMulNo s s2 X c hc W (fun W' hb => mulYes s s2 W' (hW.below hb) (by omega) (by omega) h.1 h2.1 X c hv), fun W => refMulYes s s2 W l1 l2 h.1 h2.1 X c hv, fun W => wholeNo X c hc W⟩
theorem decDiv {z z2 : Int} {s s2 : ByteArray} (h : SaysR z s) (h2 : SaysR z2 s2) : Dec2 20 66 s s2 := by
  have l1 := h.2.2
  have l2 := h2.2.2
  by_cases h0 : damt s2.data.toList = 0
  · exact ⟨⟨#[]⟩, 3, 0, 0, ⟨#[]⟩, 3, fun W hW => rdDivNo s s2 ⟨#[]⟩ 3 (by decide) W (fun W' hb => divZero s s2 W' (hW.below hb) (by omega) (by omega) h.1 h2.1 h0), fun W => refDivZero s s2 W l1 l2 h.1 h2.1 h0, fun W => wholeNo ⟨#[]⟩ 3 (by decide) W⟩
  · obtain ⟨X, c, hv⟩ := said_form (txt (dquo s.data.toList s2.data.toList))
    by_cases hc : c = 0
    · exact ⟨X, c, 3, 0, X, 0, fun W hW => rdDivYes s s2 X c hc W (fun W' hb => divYes s s2 W' (hW.below hb) (by omega) (by omega) h.1 h2.1 h0 X c hv), fun W => refDivYes s s2 W l1 l2 h.1 h2.1 h0 X c hv, fun W => by rw [hc]; exact wholeYes X W⟩
    · exact ⟨X, c, 0, 0, ⟨#[]⟩, c, fun W hW => rdDivNo s s2 X c hc W (fun W' hb => divYes s s2 W' (hW.below hb) (by omega) (by omega) h.1 h2.1 h0 X c hv), fun W => refDivYes s s2 W l1 l2 h.1 h2.1 h0 X c hv, fun W => wholeNo X c hc W⟩
/-- One operation on whole numbers, on both sides. -/
def Int2 (lang op a b : Int) : Prop := ∃ (k9 n9 : Int) (t9 : ByteArray) (e9 : Int),
  (∀ W, Calls Tryz.prog 101 #[.int .i64 op, .int .i64 a, .int .i64 b] W (RPost W k9 n9 t9 e9)) ∧
  (∀ W, Calls Tryz.prog 61 #[.int .i64 lang, .int .i64 op, .int .i64 a, .int .i64 b] W (RPost W k9 n9 t9 e9))
section
variable (lang a b : Int) (a0 : -9223372036854775808 ≤ a) (a1 : a ≤ 9223372036854775807) (b0 : -9223372036854775808 ≤ b) (b1 : b ≤ 9223372036854775807)
include a0 a1 b0 b1
theorem intAdd : Int2 lang 17 a b := by
  cases h : inI (a + b) with
  | true => exact ⟨2, a + b, ⟨#[]⟩, 0, fun W => riAddYes a b a0 a1 b0 b1 h W, fun W => tiCall17 lang a b _ _ _ _ W (fun W' _ => rnAddYes a b a0 a1 b0 b1 h W')⟩
  | false => exact ⟨0, 0, ⟨#[]⟩, 2, fun W => riAddNo a b a0 a1 b0 b1 h W, fun W => tiCall17 lang a b _ _ _ _ W (fun W' _ => rnAddNo a b a0 a1 b0 b1 h W')⟩
theorem intSub : Int2 lang 18 a b := by
  cases h : inI (a - b) with
  | true => exact ⟨2, a - b, ⟨#[]⟩, 0, fun W => riSubYes a b a0 a1 b0 b1 h W, fun W => tiCall18 lang a b _ _ _ _ W (fun W' _ => rnSubYes a b a0 a1 b0 b1 h W')⟩
  | false => exact ⟨0, 0, ⟨#[]⟩, 2, fun W => riSubNo a b a0 a1 b0 b1 h W, fun W => tiCall18 lang a b _ _ _ _ W (fun W' _ => rnSubNo a b a0 a1 b0 b1 h W')⟩
theorem intMul : Int2 lang 19 a b := by
  cases h : inI (a * b) with
  | true => exact ⟨2, a * b, ⟨#[]⟩, 0, fun W => riMulYes a b a0 a1 b0 b1 h W, fun W => tiCall19 lang a b _ _ _ _ W (fun W' _ => rnMulYes a b a0 a1 b0 b1 h W')⟩
  | false => exact ⟨0, 0, ⟨#[]⟩, 2, fun W => riMulNo a b a0 a1 b0 b1 h W, fun W => tiCall19 lang a b _ _ _ _ W (fun W' _ => rnMulNo a b a0 a1 b0 b1 h W')⟩
omit a0 a1 b0 b1 in
theorem intRem : Int2 lang 21 a b := by
  by_cases hb : b = 0
  · subst hb
    exact ⟨0, 0, ⟨#[]⟩, 3, fun W => riRemZero a W, fun W => tiZero21 lang a W⟩
  · by_cases h1 : b = -1
    · subst h1
      refine ⟨2, 0, ⟨#[]⟩, 0, fun W => ?_, fun W => tiRemNeg lang a W⟩
      have h := riRemYes a (-1) hb W
      rwa [show a.tmod (-1) = 0 by simp] at h
    · exact ⟨2, a.tmod b, ⟨#[]⟩, 0, fun W => riRemYes a b hb W, fun W => tiRem lang a b hb (by simpa using hb) (by simpa using h1) W⟩
theorem intQuo (hl : (lang == 1) = false) : Int2 lang 20 a b := by
  by_cases hb : b = 0
  · subst hb
    exact ⟨0, 0, ⟨#[]⟩, 3, fun W => riQuoZero a W, fun W => tiZero20 lang a W⟩
  · by_cases h1 : b = -1
    · subst h1
      have e : a.tdiv (-1) = 0 - a := by rw [Int.tdiv_neg, Int.tdiv_one]; omega
      cases h : inI (0 - a) with
      | true =>
        refine ⟨2, 0 - a, ⟨#[]⟩, 0, fun W => ?_, fun W => tiQuoNeg lang a hl _ _ _ _ W (fun W' _ => rnSubYes 0 a (by omega) (by omega) a0 a1 h W')⟩
        have h9 := riQuoYes a (-1) a0 a1 b0 b1 hb (by rw [e]; exact h) W
        rwa [e] at h9
      | false => exact ⟨0, 0, ⟨#[]⟩, 2, fun W => riQuoNo a (-1) a0 a1 b0 b1 hb (by rw [e]; exact h) W, fun W => tiQuoNeg lang a hl _ _ _ _ W (fun W' _ => rnSubNo 0 a (by omega) (by omega) a0 a1 h W')⟩
    · have hq : inI (a.tdiv b) = true := by
        rw [← quo_in a0 a1 hb]
        simp [h1]
      refine ⟨2, a.tdiv b, ⟨#[]⟩, 0, fun W => riQuoYes a b a0 a1 b0 b1 hb hq W, fun W => ?_⟩
      have h9 := tiQuo lang a b hb (by simpa using hb) (by simpa using h1) hl W
      rwa [wrap_in hq] at h9
end
end Go.Proofs.YtoifjjgakblhhaaGreatDoor
