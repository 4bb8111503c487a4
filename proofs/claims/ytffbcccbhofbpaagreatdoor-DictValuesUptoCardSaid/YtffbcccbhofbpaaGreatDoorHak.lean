/- Texts of one kind, one behind the other: each says ahead of itself what it shows. -/
import Derived.Test.YtffbcccbhofbpaaGreatDoorHaj
import Derived.Test.YtffbcccbhofbpaaGreatDoorHaf
/- How a value is encoded: the kinds one by one. -/

namespace Go.Proofs.YtffbcccbhofbpaaGreatDoor
open Go.RowKit

theorem byteOf_zero (n : Int) : ((byteOf n 0).toNat : Int) = n % 256 := by
  rw [byteOf_int]
  simp
theorem strange {k : Int} (h : kindT k = 115) : k ≠ 0 ∧ k ≠ 1 ∧ k ≠ 2 ∧ k ≠ 3 ∧ k ≠ 4 ∧ k ≠ 5 ∧ k ≠ 6 ∧ k ≠ 7 ∧ k ≠ 8 ∧ k ≠ 9 ∧ k ≠ 10 := by
  refine ⟨?_, ?_, ?_, ?_, ?_, ?_, ?_, ?_, ?_, ?_, ?_⟩ <;> (rintro rfl; revert h; decide)
theorem wrapU (n : Int) : IntKind.u64.wrap n = n % 18446744073709551616 := rfl
/-- What encode tells. -/
def EncPost (w0 : World) (l : List UInt8) (v : Val) (e : Ending) (w' : World) : Prop := ∃ A', e = .returned A' ∧ OwnB w0 A' (l ++ encP v) w'

set_option maxRecDepth 20000 in
set_option maxHeartbeats 6400000 in
theorem encNull (w0 w : World) (A : Value) (l : List UInt8) (b : Bool) (n : Int) (t x : ByteArray) (p : Option Addr) (q : List Val) (cap : Nat) (hf : Fine n t x q.length) (h : OwnB w0 A l w) (hl : l.length ≤ 800000000) :
    Calls Tryz.prog 36 #[A, .agg #[.int .i64 0, .bool b, .int .i64 n, .string t, .string x, .slice p q.length cap]] w (EncPost w0 l (.mk 0 b n t x q)) := by
  obtain ⟨i0, hi, hz0, hz1, hz2⟩ := info_parts info5
  obtain ⟨W0, hW0⟩ : ∃ W0, W0 = w.alloc (.cells #[.int .i64 0, .bool b, .int .i64 n, .string t, .string x, .slice p q.length cap] 31) := ⟨_, rfl⟩
  have S : Six W0 w.heap.size 0 b n t x p q.length cap := by rw [hW0]; exact six_new _ rfl
  have hne := h.ne
  have O : OwnB w0 A l W0 := by rw [hW0]; exact h.alloc _
  have hown := O.own
  have f0 := S.c0
  have HS : Hid (W0.heap.size = w.heap.size + 1) := Lib.hid (by rw [hW0]; simp)
  have hlo : w0.heap.size ≤ w.heap.size := h.lo
  have H0 := Lib.hid hW0
  have HF := Lib.hid hf
  clear hW0 h hf
  go_enter Tryz.func36, Tryz.ntmps36
  go_wp2_with (at_builtin; rw [← H0.out]; refine wpList_append_own _ rfl _ _ 57 rfl w0.heap.size 5 i0 (.int .u8 0) 1 1 Tryz.underlying57 hi hz0 hz1 hz2 rfl (by decide) _ _ _ rfl (hown.alloc _) ⟨w.heap.size + 1, 0, none⟩ 1 1 [.int .u8 (0)] rfl rfl ?_ ?_ ?_ ?_ ?_ ?_)
  all_goals (try (first | rfl | (unfold maxLen; omega) | omega | (simp [HS.out]; omega) | (intro u hu; simp at hu; subst hu; rfl) | (rw [← HS.out]; exact cell_one_new _ _ _) | (simp; done)))
  intro v1 w1 hown1 hgrow _
  have O1 := (O.alloc _).say (l' := l ++ [byteOf 0 0]) hown1 hgrow (by simp) (by rw [vals_append, vals_one _ (byteOf_zero _)]; rfl)
  have S1 := (S.alloc (.cells #[.int .u8 (0)] 5)).grown hgrow hne
  clear hgrow hown1 hown O S f0 H0
  go_wp2_with (first
    | ((with_reducible refine wpList_load6 (.tmp 3) w.heap.size S1 ?_ ?_ ?_ ?_); rfl; rfl; rfl)
    | (go_at_call 47; (with_reducible refine (kindOfAt 0 _ _ _ _ _ 113 rfl _).mono ?_); rintro e w2 ⟨rfl, hb2⟩; have O2 := O1.after hb2; have S2 := S1.below hb2; have f0 := S2.c0; have f1 := S2.c1; have f2 := S2.c2; have f3 := S2.c3; have f4 := S2.c4; have f5 := S2.c5; clear hb2 O1 S1)
    | (simp only [ta113_113, ta113_91, ta113_93, ta113_94, ta113_95, ta113_97, ta113_98, ta113_99, ta113_100, ta113_102, ta113_103, Result.andThen_ok]))
  have HO := Lib.hid O2
  clear O2
  go_wp2_with fail
  go_ret
  exact ⟨_, rfl, by unfold encP; simpa using HO.out⟩

set_option maxRecDepth 20000 in
set_option maxHeartbeats 6400000 in
theorem encWhole (w0 w : World) (A : Value) (l : List UInt8) (b : Bool) (n : Int) (t x : ByteArray) (p : Option Addr) (q : List Val) (cap : Nat) (hf : Fine n t x q.length) (h : OwnB w0 A l w) (hl : l.length ≤ 800000000) :
    Calls Tryz.prog 36 #[A, .agg #[.int .i64 2, .bool b, .int .i64 n, .string t, .string x, .slice p q.length cap]] w (EncPost w0 l (.mk 2 b n t x q)) := by
  obtain ⟨i0, hi, hz0, hz1, hz2⟩ := info_parts info5
  obtain ⟨W0, hW0⟩ : ∃ W0, W0 = w.alloc (.cells #[.int .i64 2, .bool b, .int .i64 n, .string t, .string x, .slice p q.length cap] 31) := ⟨_, rfl⟩
  have S : Six W0 w.heap.size 2 b n t x p q.length cap := by rw [hW0]; exact six_new _ rfl
  have hne := h.ne
  have O : OwnB w0 A l W0 := by rw [hW0]; exact h.alloc _
  have hown := O.own
  have f0 := S.c0
  have HS : Hid (W0.heap.size = w.heap.size + 1) := Lib.hid (by rw [hW0]; simp)
  have hlo : w0.heap.size ≤ w.heap.size := h.lo
  have H0 := Lib.hid hW0
  have HF := Lib.hid hf
  clear hW0 h hf
  have hI : ∀ W A L, OwnB w0 A L W → L.length ≤ 1000000000 → Calls Tryz.prog 49 #[A, .int .u64 (IntKind.u64.wrap n), .int .i64 8] W fun e w' => ∃ A', e = .returned A' ∧ OwnB w0 A' (L ++ beB n 8) w' ∧ Bx W w' := fun W A L hO hL => by
    have := encodeIntAt w0 W A L (n % 18446744073709551616) 8 (by omega) (by omega) (by omega) hO hL
    rw [beB_mod n 8 (by omega), ← wrapU n] at this
    exact this
  go_enter Tryz.func36, Tryz.ntmps36
  go_wp2_with (at_builtin; rw [← H0.out]; refine wpList_append_own _ rfl _ _ 57 rfl w0.heap.size 5 i0 (.int .u8 0) 1 1 Tryz.underlying57 hi hz0 hz1 hz2 rfl (by decide) _ _ _ rfl (hown.alloc _) ⟨w.heap.size + 1, 0, none⟩ 1 1 [.int .u8 (2)] rfl rfl ?_ ?_ ?_ ?_ ?_ ?_)
  all_goals (try (first | rfl | (unfold maxLen; omega) | omega | (simp [HS.out]; omega) | (intro u hu; simp at hu; subst hu; rfl) | (rw [← HS.out]; exact cell_one_new _ _ _) | (simp; done)))
  intro v1 w1 hown1 hgrow _
  have O1 := (O.alloc _).say (l' := l ++ [byteOf 2 0]) hown1 hgrow (by simp) (by rw [vals_append, vals_one _ (byteOf_zero _)]; rfl)
  have S1 := (S.alloc (.cells #[.int .u8 (2)] 5)).grown hgrow hne
  clear hgrow hown1 hown O S f0 H0
  go_wp2_with (first
    | ((with_reducible refine wpList_load6 (.tmp 3) w.heap.size S1 ?_ ?_ ?_ ?_); rfl; rfl; rfl)
    | (go_at_call 47; (with_reducible refine (kindOfAt 2 _ _ _ _ _ 93 rfl _).mono ?_); rintro e w2 ⟨rfl, hb2⟩; have O2 := O1.after hb2; have S2 := S1.below hb2; have f0 := S2.c0; have f1 := S2.c1; have f2 := S2.c2; have f3 := S2.c3; have f4 := S2.c4; have f5 := S2.c5; clear hb2 O1 S1)
    | (simp only [ta93_113, ta93_91, ta93_93, ta93_94, ta93_95, ta93_97, ta93_98, ta93_99, ta93_100, ta93_102, ta93_103, Result.andThen_ok])
    | (go_at_call 49; (with_reducible refine (hI _ _ _ O2 (by simp only [List.length_append, List.length_cons, List.length_nil]; omega)).mono ?_); rintro e w3 ⟨v3, rfl, O3, hx3⟩; clear f0 f1 f2 f3 f4 f5 O2 S2))
  have HO := Lib.hid O3
  clear O3
  go_wp2_with fail
  go_ret
  exact ⟨_, rfl, by unfold encP; simpa using HO.out⟩

set_option maxRecDepth 20000 in
set_option maxHeartbeats 6400000 in
theorem encNode (w0 w : World) (A : Value) (l : List UInt8) (b : Bool) (n : Int) (t x : ByteArray) (p : Option Addr) (q : List Val) (cap : Nat) (hf : Fine n t x q.length) (h : OwnB w0 A l w) (hl : l.length ≤ 800000000) :
    Calls Tryz.prog 36 #[A, .agg #[.int .i64 6, .bool b, .int .i64 n, .string t, .string x, .slice p q.length cap]] w (EncPost w0 l (.mk 6 b n t x q)) := by
  obtain ⟨i0, hi, hz0, hz1, hz2⟩ := info_parts info5
  obtain ⟨W0, hW0⟩ : ∃ W0, W0 = w.alloc (.cells #[.int .i64 6, .bool b, .int .i64 n, .string t, .string x, .slice p q.length cap] 31) := ⟨_, rfl⟩
  have S : Six W0 w.heap.size 6 b n t x p q.length cap := by rw [hW0]; exact six_new _ rfl
  have hne := h.ne
  have O : OwnB w0 A l W0 := by rw [hW0]; exact h.alloc _
  have hown := O.own
  have f0 := S.c0
  have HS : Hid (W0.heap.size = w.heap.size + 1) := Lib.hid (by rw [hW0]; simp)
  have hlo : w0.heap.size ≤ w.heap.size := h.lo
  have H0 := Lib.hid hW0
  have HF := Lib.hid hf
  clear hW0 h hf
  have hI : ∀ W A L, OwnB w0 A L W → L.length ≤ 1000000000 → Calls Tryz.prog 49 #[A, .int .u64 (IntKind.u64.wrap n), .int .i64 8] W fun e w' => ∃ A', e = .returned A' ∧ OwnB w0 A' (L ++ beB n 8) w' ∧ Bx W w' := fun W A L hO hL => by
    have := encodeIntAt w0 W A L (n % 18446744073709551616) 8 (by omega) (by omega) (by omega) hO hL
    rw [beB_mod n 8 (by omega), ← wrapU n] at this
    exact this
  go_enter Tryz.func36, Tryz.ntmps36
  go_wp2_with (at_builtin; rw [← H0.out]; refine wpList_append_own _ rfl _ _ 57 rfl w0.heap.size 5 i0 (.int .u8 0) 1 1 Tryz.underlying57 hi hz0 hz1 hz2 rfl (by decide) _ _ _ rfl (hown.alloc _) ⟨w.heap.size + 1, 0, none⟩ 1 1 [.int .u8 (6)] rfl rfl ?_ ?_ ?_ ?_ ?_ ?_)
  all_goals (try (first | rfl | (unfold maxLen; omega) | omega | (simp [HS.out]; omega) | (intro u hu; simp at hu; subst hu; rfl) | (rw [← HS.out]; exact cell_one_new _ _ _) | (simp; done)))
  intro v1 w1 hown1 hgrow _
  have O1 := (O.alloc _).say (l' := l ++ [byteOf 6 0]) hown1 hgrow (by simp) (by rw [vals_append, vals_one _ (byteOf_zero _)]; rfl)
  have S1 := (S.alloc (.cells #[.int .u8 (6)] 5)).grown hgrow hne
  clear hgrow hown1 hown O S f0 H0
  go_wp2_with (first
    | ((with_reducible refine wpList_load6 (.tmp 3) w.heap.size S1 ?_ ?_ ?_ ?_); rfl; rfl; rfl)
    | (go_at_call 47; (with_reducible refine (kindOfAt 6 _ _ _ _ _ 94 rfl _).mono ?_); rintro e w2 ⟨rfl, hb2⟩; have O2 := O1.after hb2; have S2 := S1.below hb2; have f0 := S2.c0; have f1 := S2.c1; have f2 := S2.c2; have f3 := S2.c3; have f4 := S2.c4; have f5 := S2.c5; clear hb2 O1 S1)
    | (simp only [ta94_113, ta94_91, ta94_93, ta94_94, ta94_95, ta94_97, ta94_98, ta94_99, ta94_100, ta94_102, ta94_103, Result.andThen_ok])
    | (go_at_call 49; (with_reducible refine (hI _ _ _ O2 (by simp only [List.length_append, List.length_cons, List.length_nil]; omega)).mono ?_); rintro e w3 ⟨v3, rfl, O3, hx3⟩; clear f0 f1 f2 f3 f4 f5 O2 S2))
  have HO := Lib.hid O3
  clear O3
  go_wp2_with fail
  go_ret
  exact ⟨_, rfl, by unfold encP; simpa using HO.out⟩

set_option maxRecDepth 20000 in
set_option maxHeartbeats 6400000 in
theorem encEdge (w0 w : World) (A : Value) (l : List UInt8) (b : Bool) (n : Int) (t x : ByteArray) (p : Option Addr) (q : List Val) (cap : Nat) (hf : Fine n t x q.length) (h : OwnB w0 A l w) (hl : l.length ≤ 800000000) :
    Calls Tryz.prog 36 #[A, .agg #[.int .i64 7, .bool b, .int .i64 n, .string t, .string x, .slice p q.length cap]] w (EncPost w0 l (.mk 7 b n t x q)) := by
  obtain ⟨i0, hi, hz0, hz1, hz2⟩ := info_parts info5
  obtain ⟨W0, hW0⟩ : ∃ W0, W0 = w.alloc (.cells #[.int .i64 7, .bool b, .int .i64 n, .string t, .string x, .slice p q.length cap] 31) := ⟨_, rfl⟩
  have S : Six W0 w.heap.size 7 b n t x p q.length cap := by rw [hW0]; exact six_new _ rfl
  have hne := h.ne
  have O : OwnB w0 A l W0 := by rw [hW0]; exact h.alloc _
  have hown := O.own
  have f0 := S.c0
  have HS : Hid (W0.heap.size = w.heap.size + 1) := Lib.hid (by rw [hW0]; simp)
  have hlo : w0.heap.size ≤ w.heap.size := h.lo
  have H0 := Lib.hid hW0
  have HF := Lib.hid hf
  clear hW0 h hf
  have hI : ∀ W A L, OwnB w0 A L W → L.length ≤ 1000000000 → Calls Tryz.prog 49 #[A, .int .u64 (IntKind.u64.wrap n), .int .i64 8] W fun e w' => ∃ A', e = .returned A' ∧ OwnB w0 A' (L ++ beB n 8) w' ∧ Bx W w' := fun W A L hO hL => by
    have := encodeIntAt w0 W A L (n % 18446744073709551616) 8 (by omega) (by omega) (by omega) hO hL
    rw [beB_mod n 8 (by omega), ← wrapU n] at this
    exact this
  go_enter Tryz.func36, Tryz.ntmps36
  go_wp2_with (at_builtin; rw [← H0.out]; refine wpList_append_own _ rfl _ _ 57 rfl w0.heap.size 5 i0 (.int .u8 0) 1 1 Tryz.underlying57 hi hz0 hz1 hz2 rfl (by decide) _ _ _ rfl (hown.alloc _) ⟨w.heap.size + 1, 0, none⟩ 1 1 [.int .u8 (7)] rfl rfl ?_ ?_ ?_ ?_ ?_ ?_)
  all_goals (try (first | rfl | (unfold maxLen; omega) | omega | (simp [HS.out]; omega) | (intro u hu; simp at hu; subst hu; rfl) | (rw [← HS.out]; exact cell_one_new _ _ _) | (simp; done)))
  intro v1 w1 hown1 hgrow _
  have O1 := (O.alloc _).say (l' := l ++ [byteOf 7 0]) hown1 hgrow (by simp) (by rw [vals_append, vals_one _ (byteOf_zero _)]; rfl)
  have S1 := (S.alloc (.cells #[.int .u8 (7)] 5)).grown hgrow hne
  clear hgrow hown1 hown O S f0 H0
  go_wp2_with (first
    | ((with_reducible refine wpList_load6 (.tmp 3) w.heap.size S1 ?_ ?_ ?_ ?_); rfl; rfl; rfl)
    | (go_at_call 47; (with_reducible refine (kindOfAt 7 _ _ _ _ _ 95 rfl _).mono ?_); rintro e w2 ⟨rfl, hb2⟩; have O2 := O1.after hb2; have S2 := S1.below hb2; have f0 := S2.c0; have f1 := S2.c1; have f2 := S2.c2; have f3 := S2.c3; have f4 := S2.c4; have f5 := S2.c5; clear hb2 O1 S1)
    | (simp only [ta95_113, ta95_91, ta95_93, ta95_94, ta95_95, ta95_97, ta95_98, ta95_99, ta95_100, ta95_102, ta95_103, Result.andThen_ok])
    | (go_at_call 49; (with_reducible refine (hI _ _ _ O2 (by simp only [List.length_append, List.length_cons, List.length_nil]; omega)).mono ?_); rintro e w3 ⟨v3, rfl, O3, hx3⟩; clear f0 f1 f2 f3 f4 f5 O2 S2))
  have HO := Lib.hid O3
  clear O3
  go_wp2_with fail
  go_ret
  exact ⟨_, rfl, by unfold encP; simpa using HO.out⟩

set_option maxRecDepth 20000 in
set_option maxHeartbeats 6400000 in
theorem encExact (w0 w : World) (A : Value) (l : List UInt8) (b : Bool) (n : Int) (t x : ByteArray) (p : Option Addr) (q : List Val) (cap : Nat) (hf : Fine n t x q.length) (h : OwnB w0 A l w) (hl : l.length ≤ 800000000) :
    Calls Tryz.prog 36 #[A, .agg #[.int .i64 3, .bool b, .int .i64 n, .string t, .string x, .slice p q.length cap]] w (EncPost w0 l (.mk 3 b n t x q)) := by
  obtain ⟨i0, hi, hz0, hz1, hz2⟩ := info_parts info5
  obtain ⟨W0, hW0⟩ : ∃ W0, W0 = w.alloc (.cells #[.int .i64 3, .bool b, .int .i64 n, .string t, .string x, .slice p q.length cap] 31) := ⟨_, rfl⟩
  have S : Six W0 w.heap.size 3 b n t x p q.length cap := by rw [hW0]; exact six_new _ rfl
  have hne := h.ne
  have O : OwnB w0 A l W0 := by rw [hW0]; exact h.alloc _
  have hown := O.own
  have f0 := S.c0
  have HS : Hid (W0.heap.size = w.heap.size + 1) := Lib.hid (by rw [hW0]; simp)
  have hlo : w0.heap.size ≤ w.heap.size := h.lo
  have H0 := Lib.hid hW0
  have HF := Lib.hid hf
  clear hW0 h hf
  go_enter Tryz.func36, Tryz.ntmps36
  go_wp2_with (at_builtin; rw [← H0.out]; refine wpList_append_own _ rfl _ _ 57 rfl w0.heap.size 5 i0 (.int .u8 0) 1 1 Tryz.underlying57 hi hz0 hz1 hz2 rfl (by decide) _ _ _ rfl (hown.alloc _) ⟨w.heap.size + 1, 0, none⟩ 1 1 [.int .u8 (3)] rfl rfl ?_ ?_ ?_ ?_ ?_ ?_)
  all_goals (try (first | rfl | (unfold maxLen; omega) | omega | (simp [HS.out]; omega) | (intro u hu; simp at hu; subst hu; rfl) | (rw [← HS.out]; exact cell_one_new _ _ _) | (simp; done)))
  intro v1 w1 hown1 hgrow _
  have O1 := (O.alloc _).say (l' := l ++ [byteOf 3 0]) hown1 hgrow (by simp) (by rw [vals_append, vals_one _ (byteOf_zero _)]; rfl)
  have S1 := (S.alloc (.cells #[.int .u8 (3)] 5)).grown hgrow hne
  clear hgrow hown1 hown O S f0 H0
  go_wp2_with (first
    | ((with_reducible refine wpList_load6 (.tmp 3) w.heap.size S1 ?_ ?_ ?_ ?_); rfl; rfl; rfl)
    | (go_at_call 47; (with_reducible refine (kindOfAt 3 _ _ _ _ _ 97 rfl _).mono ?_); rintro e w2 ⟨rfl, hb2⟩; have O2 := O1.after hb2; have S2 := S1.below hb2; have f0 := S2.c0; have f1 := S2.c1; have f2 := S2.c2; have f3 := S2.c3; have f4 := S2.c4; have f5 := S2.c5; clear hb2 O1 S1)
    | (simp only [ta97_113, ta97_91, ta97_93, ta97_94, ta97_95, ta97_97, ta97_98, ta97_99, ta97_100, ta97_102, ta97_103, Result.andThen_ok])
    | (go_at_call 50; (with_reducible refine (encodeTextAt w0 _ _ _ t HF.out.ht O2 (by simp only [List.length_append, List.length_cons, List.length_nil]; omega)).mono ?_); rintro e w3 ⟨v3, rfl, O3, hx3⟩; clear f0 f1 f2 f3 f4 f5 O2 S2))
  have HO := Lib.hid O3
  clear O3
  go_wp2_with fail
  go_ret
  exact ⟨_, rfl, by unfold encP; simpa using HO.out⟩

set_option maxRecDepth 20000 in
set_option maxHeartbeats 6400000 in
theorem encText (w0 w : World) (A : Value) (l : List UInt8) (b : Bool) (n : Int) (t x : ByteArray) (p : Option Addr) (q : List Val) (cap : Nat) (hf : Fine n t x q.length) (h : OwnB w0 A l w) (hl : l.length ≤ 800000000) :
    Calls Tryz.prog 36 #[A, .agg #[.int .i64 4, .bool b, .int .i64 n, .string t, .string x, .slice p q.length cap]] w (EncPost w0 l (.mk 4 b n t x q)) := by
  obtain ⟨i0, hi, hz0, hz1, hz2⟩ := info_parts info5
  obtain ⟨W0, hW0⟩ : ∃ W0, W0 = w.alloc (.cells #[.int .i64 4, .bool b, .int .i64 n, .string t, .string x, .slice p q.length cap] 31) := ⟨_, rfl⟩
  have S : Six W0 w.heap.size 4 b n t x p q.length cap := by rw [hW0]; exact six_new _ rfl
  have hne := h.ne
  have O : OwnB w0 A l W0 := by rw [hW0]; exact h.alloc _
  have hown := O.own
  have f0 := S.c0
  have HS : Hid (W0.heap.size = w.heap.size + 1) := Lib.hid (by rw [hW0]; simp)
  have hlo : w0.heap.size ≤ w.heap.size := h.lo
  have H0 := Lib.hid hW0
  have HF := Lib.hid hf
  clear hW0 h hf
  go_enter Tryz.func36, Tryz.ntmps36
  go_wp2_with (at_builtin; rw [← H0.out]; refine wpList_append_own _ rfl _ _ 57 rfl w0.heap.size 5 i0 (.int .u8 0) 1 1 Tryz.underlying57 hi hz0 hz1 hz2 rfl (by decide) _ _ _ rfl (hown.alloc _) ⟨w.heap.size + 1, 0, none⟩ 1 1 [.int .u8 (4)] rfl rfl ?_ ?_ ?_ ?_ ?_ ?_)
  all_goals (try (first | rfl | (unfold maxLen; omega) | omega | (simp [HS.out]; omega) | (intro u hu; simp at hu; subst hu; rfl) | (rw [← HS.out]; exact cell_one_new _ _ _) | (simp; done)))
  intro v1 w1 hown1 hgrow _
  have O1 := (O.alloc _).say (l' := l ++ [byteOf 4 0]) hown1 hgrow (by simp) (by rw [vals_append, vals_one _ (byteOf_zero _)]; rfl)
  have S1 := (S.alloc (.cells #[.int .u8 (4)] 5)).grown hgrow hne
  clear hgrow hown1 hown O S f0 H0
  go_wp2_with (first
    | ((with_reducible refine wpList_load6 (.tmp 3) w.heap.size S1 ?_ ?_ ?_ ?_); rfl; rfl; rfl)
    | (go_at_call 47; (with_reducible refine (kindOfAt 4 _ _ _ _ _ 98 rfl _).mono ?_); rintro e w2 ⟨rfl, hb2⟩; have O2 := O1.after hb2; have S2 := S1.below hb2; have f0 := S2.c0; have f1 := S2.c1; have f2 := S2.c2; have f3 := S2.c3; have f4 := S2.c4; have f5 := S2.c5; clear hb2 O1 S1)
    | (simp only [ta98_113, ta98_91, ta98_93, ta98_94, ta98_95, ta98_97, ta98_98, ta98_99, ta98_100, ta98_102, ta98_103, Result.andThen_ok])
    | (go_at_call 50; (with_reducible refine (encodeTextAt w0 _ _ _ t HF.out.ht O2 (by simp only [List.length_append, List.length_cons, List.length_nil]; omega)).mono ?_); rintro e w3 ⟨v3, rfl, O3, hx3⟩; clear f0 f1 f2 f3 f4 f5 O2 S2))
  have HO := Lib.hid O3
  clear O3
  go_wp2_with fail
  go_ret
  exact ⟨_, rfl, by unfold encP; simpa using HO.out⟩

set_option maxRecDepth 20000 in
set_option maxHeartbeats 6400000 in
theorem encIri (w0 w : World) (A : Value) (l : List UInt8) (b : Bool) (n : Int) (t x : ByteArray) (p : Option Addr) (q : List Val) (cap : Nat) (hf : Fine n t x q.length) (h : OwnB w0 A l w) (hl : l.length ≤ 800000000) :
    Calls Tryz.prog 36 #[A, .agg #[.int .i64 8, .bool b, .int .i64 n, .string t, .string x, .slice p q.length cap]] w (EncPost w0 l (.mk 8 b n t x q)) := by
  obtain ⟨i0, hi, hz0, hz1, hz2⟩ := info_parts info5
  obtain ⟨W0, hW0⟩ : ∃ W0, W0 = w.alloc (.cells #[.int .i64 8, .bool b, .int .i64 n, .string t, .string x, .slice p q.length cap] 31) := ⟨_, rfl⟩
  have S : Six W0 w.heap.size 8 b n t x p q.length cap := by rw [hW0]; exact six_new _ rfl
  have hne := h.ne
  have O : OwnB w0 A l W0 := by rw [hW0]; exact h.alloc _
  have hown := O.own
  have f0 := S.c0
  have HS : Hid (W0.heap.size = w.heap.size + 1) := Lib.hid (by rw [hW0]; simp)
  have hlo : w0.heap.size ≤ w.heap.size := h.lo
  have H0 := Lib.hid hW0
  have HF := Lib.hid hf
  clear hW0 h hf
  go_enter Tryz.func36, Tryz.ntmps36
  go_wp2_with (at_builtin; rw [← H0.out]; refine wpList_append_own _ rfl _ _ 57 rfl w0.heap.size 5 i0 (.int .u8 0) 1 1 Tryz.underlying57 hi hz0 hz1 hz2 rfl (by decide) _ _ _ rfl (hown.alloc _) ⟨w.heap.size + 1, 0, none⟩ 1 1 [.int .u8 (8)] rfl rfl ?_ ?_ ?_ ?_ ?_ ?_)
  all_goals (try (first | rfl | (unfold maxLen; omega) | omega | (simp [HS.out]; omega) | (intro u hu; simp at hu; subst hu; rfl) | (rw [← HS.out]; exact cell_one_new _ _ _) | (simp; done)))
  intro v1 w1 hown1 hgrow _
  have O1 := (O.alloc _).say (l' := l ++ [byteOf 8 0]) hown1 hgrow (by simp) (by rw [vals_append, vals_one _ (byteOf_zero _)]; rfl)
  have S1 := (S.alloc (.cells #[.int .u8 (8)] 5)).grown hgrow hne
  clear hgrow hown1 hown O S f0 H0
  go_wp2_with (first
    | ((with_reducible refine wpList_load6 (.tmp 3) w.heap.size S1 ?_ ?_ ?_ ?_); rfl; rfl; rfl)
    | (go_at_call 47; (with_reducible refine (kindOfAt 8 _ _ _ _ _ 99 rfl _).mono ?_); rintro e w2 ⟨rfl, hb2⟩; have O2 := O1.after hb2; have S2 := S1.below hb2; have f0 := S2.c0; have f1 := S2.c1; have f2 := S2.c2; have f3 := S2.c3; have f4 := S2.c4; have f5 := S2.c5; clear hb2 O1 S1)
    | (simp only [ta99_113, ta99_91, ta99_93, ta99_94, ta99_95, ta99_97, ta99_98, ta99_99, ta99_100, ta99_102, ta99_103, Result.andThen_ok])
    | (go_at_call 50; (with_reducible refine (encodeTextAt w0 _ _ _ t HF.out.ht O2 (by simp only [List.length_append, List.length_cons, List.length_nil]; omega)).mono ?_); rintro e w3 ⟨v3, rfl, O3, hx3⟩; clear f0 f1 f2 f3 f4 f5 O2 S2))
  have HO := Lib.hid O3
  clear O3
  go_wp2_with fail
  go_ret
  exact ⟨_, rfl, by unfold encP; simpa using HO.out⟩

set_option maxRecDepth 20000 in
set_option maxHeartbeats 6400000 in
theorem encBlank (w0 w : World) (A : Value) (l : List UInt8) (b : Bool) (n : Int) (t x : ByteArray) (p : Option Addr) (q : List Val) (cap : Nat) (hf : Fine n t x q.length) (h : OwnB w0 A l w) (hl : l.length ≤ 800000000) :
    Calls Tryz.prog 36 #[A, .agg #[.int .i64 9, .bool b, .int .i64 n, .string t, .string x, .slice p q.length cap]] w (EncPost w0 l (.mk 9 b n t x q)) := by
  obtain ⟨i0, hi, hz0, hz1, hz2⟩ := info_parts info5
  obtain ⟨W0, hW0⟩ : ∃ W0, W0 = w.alloc (.cells #[.int .i64 9, .bool b, .int .i64 n, .string t, .string x, .slice p q.length cap] 31) := ⟨_, rfl⟩
  have S : Six W0 w.heap.size 9 b n t x p q.length cap := by rw [hW0]; exact six_new _ rfl
  have hne := h.ne
  have O : OwnB w0 A l W0 := by rw [hW0]; exact h.alloc _
  have hown := O.own
  have f0 := S.c0
  have HS : Hid (W0.heap.size = w.heap.size + 1) := Lib.hid (by rw [hW0]; simp)
  have hlo : w0.heap.size ≤ w.heap.size := h.lo
  have H0 := Lib.hid hW0
  have HF := Lib.hid hf
  clear hW0 h hf
  go_enter Tryz.func36, Tryz.ntmps36
  go_wp2_with (at_builtin; rw [← H0.out]; refine wpList_append_own _ rfl _ _ 57 rfl w0.heap.size 5 i0 (.int .u8 0) 1 1 Tryz.underlying57 hi hz0 hz1 hz2 rfl (by decide) _ _ _ rfl (hown.alloc _) ⟨w.heap.size + 1, 0, none⟩ 1 1 [.int .u8 (9)] rfl rfl ?_ ?_ ?_ ?_ ?_ ?_)
  all_goals (try (first | rfl | (unfold maxLen; omega) | omega | (simp [HS.out]; omega) | (intro u hu; simp at hu; subst hu; rfl) | (rw [← HS.out]; exact cell_one_new _ _ _) | (simp; done)))
  intro v1 w1 hown1 hgrow _
  have O1 := (O.alloc _).say (l' := l ++ [byteOf 9 0]) hown1 hgrow (by simp) (by rw [vals_append, vals_one _ (byteOf_zero _)]; rfl)
  have S1 := (S.alloc (.cells #[.int .u8 (9)] 5)).grown hgrow hne
  clear hgrow hown1 hown O S f0 H0
  go_wp2_with (first
    | ((with_reducible refine wpList_load6 (.tmp 3) w.heap.size S1 ?_ ?_ ?_ ?_); rfl; rfl; rfl)
    | (go_at_call 47; (with_reducible refine (kindOfAt 9 _ _ _ _ _ 100 rfl _).mono ?_); rintro e w2 ⟨rfl, hb2⟩; have O2 := O1.after hb2; have S2 := S1.below hb2; have f0 := S2.c0; have f1 := S2.c1; have f2 := S2.c2; have f3 := S2.c3; have f4 := S2.c4; have f5 := S2.c5; clear hb2 O1 S1)
    | (simp only [ta100_113, ta100_91, ta100_93, ta100_94, ta100_95, ta100_97, ta100_98, ta100_99, ta100_100, ta100_102, ta100_103, Result.andThen_ok])
    | (go_at_call 50; (with_reducible refine (encodeTextAt w0 _ _ _ t HF.out.ht O2 (by simp only [List.length_append, List.length_cons, List.length_nil]; omega)).mono ?_); rintro e w3 ⟨v3, rfl, O3, hx3⟩; clear f0 f1 f2 f3 f4 f5 O2 S2))
  have HO := Lib.hid O3
  clear O3
  go_wp2_with fail
  go_ret
  exact ⟨_, rfl, by unfold encP; simpa using HO.out⟩

set_option maxRecDepth 20000 in
set_option maxHeartbeats 6400000 in
theorem encStranger (w0 w : World) (A : Value) (l : List UInt8) (k : Int) (b : Bool) (n : Int) (t x : ByteArray) (p : Option Addr) (q : List Val) (cap : Nat) (hf : Fine n t x q.length) (h : OwnB w0 A l w) (hl : l.length ≤ 800000000) (hk : kindT k = 115) :
    Calls Tryz.prog 36 #[A, .agg #[.int .i64 k, .bool b, .int .i64 n, .string t, .string x, .slice p q.length cap]] w (EncPost w0 l (.mk k b n t x q)) := by
  obtain ⟨i0, hi, hz0, hz1, hz2⟩ := info_parts info5
  obtain ⟨W0, hW0⟩ : ∃ W0, W0 = w.alloc (.cells #[.int .i64 k, .bool b, .int .i64 n, .string t, .string x, .slice p q.length cap] 31) := ⟨_, rfl⟩
  have S : Six W0 w.heap.size k b n t x p q.length cap := by rw [hW0]; exact six_new _ rfl
  have hne := h.ne
  have O : OwnB w0 A l W0 := by rw [hW0]; exact h.alloc _
  have hown := O.own
  have f0 := S.c0
  have HS : Hid (W0.heap.size = w.heap.size + 1) := Lib.hid (by rw [hW0]; simp)
  have hlo : w0.heap.size ≤ w.heap.size := h.lo
  have H0 := Lib.hid hW0
  have HF := Lib.hid hf
  clear hW0 h hf
  go_enter Tryz.func36, Tryz.ntmps36
  go_wp2_with (at_builtin; rw [← H0.out]; refine wpList_append_own _ rfl _ _ 57 rfl w0.heap.size 5 i0 (.int .u8 0) 1 1 Tryz.underlying57 hi hz0 hz1 hz2 rfl (by decide) _ _ _ rfl (hown.alloc _) ⟨w.heap.size + 1, 0, none⟩ 1 1 [.int .u8 (k % 256)] rfl rfl ?_ ?_ ?_ ?_ ?_ ?_)
  all_goals (try (first | rfl | (unfold maxLen; omega) | omega | (simp [HS.out]; omega) | (intro u hu; simp at hu; subst hu; rfl) | (rw [← HS.out]; exact cell_one_new _ _ _) | (simp; done)))
  intro v1 w1 hown1 hgrow _
  have O1 := (O.alloc _).say (l' := l ++ [byteOf k 0]) hown1 hgrow (by simp) (by rw [vals_append, vals_one _ (byteOf_zero _)])
  have S1 := (S.alloc (.cells #[.int .u8 (k % 256)] 5)).grown hgrow hne
  clear hgrow hown1 hown O S f0 H0
  go_wp2_with (first
    | ((with_reducible refine wpList_load6 (.tmp 3) w.heap.size S1 ?_ ?_ ?_ ?_); rfl; rfl; rfl)
    | (go_at_call 47; (with_reducible refine (kindOfAt k _ _ _ _ _ 115 hk.symm _).mono ?_); rintro e w2 ⟨rfl, hb2⟩; have O2 := O1.after hb2; have S2 := S1.below hb2; have f0 := S2.c0; have f1 := S2.c1; have f2 := S2.c2; have f3 := S2.c3; have f4 := S2.c4; have f5 := S2.c5; clear hb2 O1 S1)
    | (simp only [ta115_113, ta115_91, ta115_93, ta115_94, ta115_95, ta115_97, ta115_98, ta115_99, ta115_100, ta115_102, ta115_103, Result.andThen_ok]))
  have HO := Lib.hid O2
  clear O2
  go_wp2_with fail
  go_ret
  exact ⟨_, rfl, by have hk2 := strange hk; unfold encP; simpa [hk2] using HO.out⟩

end Go.Proofs.YtffbcccbhofbpaaGreatDoor

/- How a value is encoded: bools, literals. -/

namespace Go.Proofs.YtffbcccbhofbpaaGreatDoor
open Go.RowKit


set_option maxRecDepth 20000 in
set_option maxHeartbeats 6400000 in
theorem encBoolTrue (w0 w : World) (A : Value) (l : List UInt8) (n : Int) (t x : ByteArray) (p : Option Addr) (q : List Val) (cap : Nat) (hf : Fine n t x q.length) (h : OwnB w0 A l w) (hl : l.length ≤ 800000000) :
    Calls Tryz.prog 36 #[A, .agg #[.int .i64 1, .bool true, .int .i64 n, .string t, .string x, .slice p q.length cap]] w (EncPost w0 l (.mk 1 true n t x q)) := by
  obtain ⟨i0, hi, hz0, hz1, hz2⟩ := info_parts info5
  obtain ⟨W0, hW0⟩ : ∃ W0, W0 = w.alloc (.cells #[.int .i64 1, .bool true, .int .i64 n, .string t, .string x, .slice p q.length cap] 31) := ⟨_, rfl⟩
  have S : Six W0 w.heap.size 1 true n t x p q.length cap := by rw [hW0]; exact six_new _ rfl
  have hne := h.ne
  have O : OwnB w0 A l W0 := by rw [hW0]; exact h.alloc _
  have hown := O.own
  have f0 := S.c0
  have HS : Hid (W0.heap.size = w.heap.size + 1) := Lib.hid (by rw [hW0]; simp)
  have hlo : w0.heap.size ≤ w.heap.size := h.lo
  have H0 := Lib.hid hW0
  have HF := Lib.hid hf
  clear hW0 h hf
  have hT : ∀ W, Calls Tryz.prog 48 #[.bool true] W fun e w' => e = .returned (.int .i64 1) ∧ W = w' := fun W => by
    have := truthOfAt true W
    simpa using this
  go_enter Tryz.func36, Tryz.ntmps36
  go_wp2_with (at_builtin; rw [← H0.out]; refine wpList_append_own _ rfl _ _ 57 rfl w0.heap.size 5 i0 (.int .u8 0) 1 1 Tryz.underlying57 hi hz0 hz1 hz2 rfl (by decide) _ _ _ rfl (hown.alloc _) ⟨w.heap.size + 1, 0, none⟩ 1 1 [.int .u8 (1)] rfl rfl ?_ ?_ ?_ ?_ ?_ ?_)
  all_goals (try (first | rfl | (unfold maxLen; omega) | omega | (simp [HS.out]; omega) | (intro u hu; simp at hu; subst hu; rfl) | (rw [← HS.out]; exact cell_one_new _ _ _) | (simp; done)))
  intro v1 w1 hown1 hgrow _
  have O1 := (O.alloc _).say (l' := l ++ [byteOf 1 0]) hown1 hgrow (by simp) (by rw [vals_append, vals_one _ (byteOf_zero _)]; rfl)
  have S1 := (S.alloc (.cells #[.int .u8 (1)] 5)).grown hgrow hne
  clear hgrow hown1 hown O S f0 H0
  go_wp2_with (first
    | ((with_reducible refine wpList_load6 (.tmp 3) w.heap.size S1 ?_ ?_ ?_ ?_); rfl; rfl; rfl)
    | (go_at_call 47; (with_reducible refine (kindOfAt 1 _ _ _ _ _ 91 rfl _).mono ?_); rintro e w2 ⟨rfl, hb2⟩; have O2 := O1.after hb2; have S2 := S1.below hb2; have f0 := S2.c0; have f1 := S2.c1; have f2 := S2.c2; have f3 := S2.c3; have f4 := S2.c4; have f5 := S2.c5; clear hb2 O1 S1)
    | (simp only [ta91_113, ta91_91, ta91_93, ta91_94, ta91_95, ta91_97, ta91_98, ta91_99, ta91_100, ta91_102, ta91_103, Result.andThen_ok])
    | (go_at_call 48; (with_reducible refine (hT _).mono ?_); rintro e w3 ⟨rfl, rfl⟩; have O3 := O2; have hown3 := O3.own; have hlo3 := O3.lo)
    | (at_builtin; refine wpList_append_own _ rfl _ _ 57 rfl w0.heap.size 5 i0 (.int .u8 0) 1 1 Tryz.underlying57 hi hz0 hz1 hz2 rfl (by decide) _ _ _ rfl (hown3.alloc _) ⟨w2.heap.size, 0, none⟩ 1 1 [_] rfl rfl (cell_one_new _ (.int .u8 1) _) ?_ ?_ ?_ ?_ ?_))
  all_goals (try (first | rfl | (simp only [List.length_append, List.length_cons, List.length_nil]; unfold maxLen; omega) | (simp; omega) | (intro u hu; simp at hu; subst hu; rfl)))
  intro v3 w3 hown4 hgrow4 _
  have HO := Lib.hid ((O3.alloc _).say (l' := l ++ [byteOf 1 0] ++ [1]) hown4 hgrow4 (by simp) (by rw [vals_append (a := l ++ [byteOf 1 0])]; rfl))
  clear hown4 hgrow4 hown3 O3 O2 S2
  go_wp2_with fail
  go_ret
  exact ⟨_, rfl, by unfold encP; simpa using HO.out⟩

set_option maxRecDepth 20000 in
set_option maxHeartbeats 6400000 in
theorem encBoolFalse (w0 w : World) (A : Value) (l : List UInt8) (n : Int) (t x : ByteArray) (p : Option Addr) (q : List Val) (cap : Nat) (hf : Fine n t x q.length) (h : OwnB w0 A l w) (hl : l.length ≤ 800000000) :
    Calls Tryz.prog 36 #[A, .agg #[.int .i64 1, .bool false, .int .i64 n, .string t, .string x, .slice p q.length cap]] w (EncPost w0 l (.mk 1 false n t x q)) := by
  obtain ⟨i0, hi, hz0, hz1, hz2⟩ := info_parts info5
  obtain ⟨W0, hW0⟩ : ∃ W0, W0 = w.alloc (.cells #[.int .i64 1, .bool false, .int .i64 n, .string t, .string x, .slice p q.length cap] 31) := ⟨_, rfl⟩
  have S : Six W0 w.heap.size 1 false n t x p q.length cap := by rw [hW0]; exact six_new _ rfl
  have hne := h.ne
  have O : OwnB w0 A l W0 := by rw [hW0]; exact h.alloc _
  have hown := O.own
  have f0 := S.c0
  have HS : Hid (W0.heap.size = w.heap.size + 1) := Lib.hid (by rw [hW0]; simp)
  have hlo : w0.heap.size ≤ w.heap.size := h.lo
  have H0 := Lib.hid hW0
  have HF := Lib.hid hf
  clear hW0 h hf
  have hT : ∀ W, Calls Tryz.prog 48 #[.bool false] W fun e w' => e = .returned (.int .i64 0) ∧ W = w' := fun W => by
    have := truthOfAt false W
    simpa using this
  go_enter Tryz.func36, Tryz.ntmps36
  go_wp2_with (at_builtin; rw [← H0.out]; refine wpList_append_own _ rfl _ _ 57 rfl w0.heap.size 5 i0 (.int .u8 0) 1 1 Tryz.underlying57 hi hz0 hz1 hz2 rfl (by decide) _ _ _ rfl (hown.alloc _) ⟨w.heap.size + 1, 0, none⟩ 1 1 [.int .u8 (1)] rfl rfl ?_ ?_ ?_ ?_ ?_ ?_)
  all_goals (try (first | rfl | (unfold maxLen; omega) | omega | (simp [HS.out]; omega) | (intro u hu; simp at hu; subst hu; rfl) | (rw [← HS.out]; exact cell_one_new _ _ _) | (simp; done)))
  intro v1 w1 hown1 hgrow _
  have O1 := (O.alloc _).say (l' := l ++ [byteOf 1 0]) hown1 hgrow (by simp) (by rw [vals_append, vals_one _ (byteOf_zero _)]; rfl)
  have S1 := (S.alloc (.cells #[.int .u8 (1)] 5)).grown hgrow hne
  clear hgrow hown1 hown O S f0 H0
  go_wp2_with (first
    | ((with_reducible refine wpList_load6 (.tmp 3) w.heap.size S1 ?_ ?_ ?_ ?_); rfl; rfl; rfl)
    | (go_at_call 47; (with_reducible refine (kindOfAt 1 _ _ _ _ _ 91 rfl _).mono ?_); rintro e w2 ⟨rfl, hb2⟩; have O2 := O1.after hb2; have S2 := S1.below hb2; have f0 := S2.c0; have f1 := S2.c1; have f2 := S2.c2; have f3 := S2.c3; have f4 := S2.c4; have f5 := S2.c5; clear hb2 O1 S1)
    | (simp only [ta91_113, ta91_91, ta91_93, ta91_94, ta91_95, ta91_97, ta91_98, ta91_99, ta91_100, ta91_102, ta91_103, Result.andThen_ok])
    | (go_at_call 48; (with_reducible refine (hT _).mono ?_); rintro e w3 ⟨rfl, rfl⟩; have O3 := O2; have hown3 := O3.own; have hlo3 := O3.lo)
    | (at_builtin; refine wpList_append_own _ rfl _ _ 57 rfl w0.heap.size 5 i0 (.int .u8 0) 1 1 Tryz.underlying57 hi hz0 hz1 hz2 rfl (by decide) _ _ _ rfl (hown3.alloc _) ⟨w2.heap.size, 0, none⟩ 1 1 [_] rfl rfl (cell_one_new _ (.int .u8 0) _) ?_ ?_ ?_ ?_ ?_))
  all_goals (try (first | rfl | (simp only [List.length_append, List.length_cons, List.length_nil]; unfold maxLen; omega) | (simp; omega) | (intro u hu; simp at hu; subst hu; rfl)))
  intro v3 w3 hown4 hgrow4 _
  have HO := Lib.hid ((O3.alloc _).say (l' := l ++ [byteOf 1 0] ++ [0]) hown4 hgrow4 (by simp) (by rw [vals_append (a := l ++ [byteOf 1 0])]; rfl))
  clear hown4 hgrow4 hown3 O3 O2 S2
  go_wp2_with fail
  go_ret
  exact ⟨_, rfl, by unfold encP; simpa using HO.out⟩

set_option maxRecDepth 20000 in
set_option maxHeartbeats 6400000 in
theorem encLit (w0 w : World) (A : Value) (l : List UInt8) (b : Bool) (n : Int) (t x : ByteArray) (p : Option Addr) (q : List Val) (cap : Nat) (hf : Fine n t x q.length) (h : OwnB w0 A l w) (hl : l.length ≤ 800000000) :
    Calls Tryz.prog 36 #[A, .agg #[.int .i64 10, .bool b, .int .i64 n, .string t, .string x, .slice p q.length cap]] w (EncPost w0 l (.mk 10 b n t x q)) := by
  obtain ⟨i0, hi, hz0, hz1, hz2⟩ := info_parts info5
  obtain ⟨W0, hW0⟩ : ∃ W0, W0 = w.alloc (.cells #[.int .i64 10, .bool b, .int .i64 n, .string t, .string x, .slice p q.length cap] 31) := ⟨_, rfl⟩
  have S : Six W0 w.heap.size 10 b n t x p q.length cap := by rw [hW0]; exact six_new _ rfl
  have hne := h.ne
  have O : OwnB w0 A l W0 := by rw [hW0]; exact h.alloc _
  have hown := O.own
  have f0 := S.c0
  have HS : Hid (W0.heap.size = w.heap.size + 1) := Lib.hid (by rw [hW0]; simp)
  have hlo : w0.heap.size ≤ w.heap.size := h.lo
  have H0 := Lib.hid hW0
  have HF := Lib.hid hf
  clear hW0 h hf
  go_enter Tryz.func36, Tryz.ntmps36
  go_wp2_with (at_builtin; rw [← H0.out]; refine wpList_append_own _ rfl _ _ 57 rfl w0.heap.size 5 i0 (.int .u8 0) 1 1 Tryz.underlying57 hi hz0 hz1 hz2 rfl (by decide) _ _ _ rfl (hown.alloc _) ⟨w.heap.size + 1, 0, none⟩ 1 1 [.int .u8 (10)] rfl rfl ?_ ?_ ?_ ?_ ?_ ?_)
  all_goals (try (first | rfl | (unfold maxLen; omega) | omega | (simp [HS.out]; omega) | (intro u hu; simp at hu; subst hu; rfl) | (rw [← HS.out]; exact cell_one_new _ _ _) | (simp; done)))
  intro v1 w1 hown1 hgrow _
  have O1 := (O.alloc _).say (l' := l ++ [byteOf 10 0]) hown1 hgrow (by simp) (by rw [vals_append, vals_one _ (byteOf_zero _)]; rfl)
  have S1 := (S.alloc (.cells #[.int .u8 (10)] 5)).grown hgrow hne
  clear hgrow hown1 hown O S f0 H0
  go_upto_region 10 with (first
    | ((with_reducible refine wpList_load6 (.tmp 3) w.heap.size S1 ?_ ?_ ?_ ?_); rfl; rfl; rfl)
    | (go_at_call 47; (with_reducible refine (kindOfAt 10 _ _ _ _ _ 102 rfl _).mono ?_); rintro e w2 ⟨rfl, hb2⟩; have O2 := O1.after hb2; have S2 := S1.below hb2; have f0 := S2.c0; have f1 := S2.c1; have f2 := S2.c2; have f3 := S2.c3; have f4 := S2.c4; have f5 := S2.c5; clear hb2 O1 S1)
    | (simp only [ta102_113, ta102_91, ta102_93, ta102_94, ta102_95, ta102_97, ta102_98, ta102_99, ta102_100, ta102_102, ta102_103, Result.andThen_ok]))
  have HO2 := Lib.hid O2
  have Z2 := S2.lt
  clear f0 f1 f2 f3 f4 f5
  refine wp_region_held_drew (S := fun W => Six W w.heap.size 10 b n t x p q.length cap) (by kernel_rfl) S2 (fun hHeld => ?_)
  have O3 : OwnB w0 v1 (l ++ [byteOf 10 0]) w2.drew := HO2.out.drew
  clear HO2 O2 S2
  refine wpAnyH_take (i := 0) (v := v1) rfl (by kernel_rfl) (by kernel_rfl) (by kernel_rfl) (fun _ _ _ h => h) (Or.inl ⟨by rfl, fun W _ => by go_simp⟩) hHeld ?_
  try simp only [Act.put, List.getElem_toArray, List.getElem_cons_succ, List.getElem_cons_zero, List.setIfInBounds_toArray, List.set_cons_zero, List.set_cons_succ]
  refine wpAnyH_take (i := 1) (v := (.pointer (some ⟨w.heap.size, 3, none⟩))) rfl (by kernel_rfl) (by kernel_rfl) (by kernel_rfl) (fun _ _ _ h => h) (Or.inl ⟨by rfl, fun W _ => by go_simp⟩) hHeld ?_
  try simp only [Act.put, List.getElem_toArray, List.getElem_cons_succ, List.getElem_cons_zero, List.setIfInBounds_toArray, List.set_cons_zero, List.set_cons_succ]
  refine wpAnyH_take (i := 4) (v := (.pointer (some ⟨w.heap.size, 4, none⟩))) rfl (by kernel_rfl) (by kernel_rfl) (by kernel_rfl) (fun _ _ _ h => h) (Or.inl ⟨by rfl, fun W _ => by go_simp⟩) hHeld ?_
  try simp only [Act.put, List.getElem_toArray, List.getElem_cons_succ, List.getElem_cons_zero, List.setIfInBounds_toArray, List.set_cons_zero, List.set_cons_succ]
  refine wpAnyH_take (i := 2) (v := (.string t)) rfl (by kernel_rfl) (by kernel_rfl) (by kernel_rfl) (fun _ _ _ h => h) (Or.inl ⟨by rfl, fun W h => by have c0 := h.c3; go_simp⟩) hHeld ?_
  try simp only [Act.put, List.getElem_toArray, List.getElem_cons_succ, List.getElem_cons_zero, List.setIfInBounds_toArray, List.set_cons_zero, List.set_cons_succ]
  refine wpAnyH_take (i := 5) (v := (.string x)) rfl (by kernel_rfl) (by kernel_rfl) (by kernel_rfl) (fun _ _ _ h => h) (Or.inl ⟨by rfl, fun W h => by have c0 := h.c4; go_simp⟩) hHeld ?_
  try simp only [Act.put, List.getElem_toArray, List.getElem_cons_succ, List.getElem_cons_zero, List.setIfInBounds_toArray, List.set_cons_zero, List.set_cons_succ]
  refine wpAnyH_ready (rs := [3]) (by kernel_rfl) (by simp) ?_
  refine AllReadyH.cons rfl (fun K hK => ?_) AllReadyH.nil
  rw [if_pos (by rfl)]
  go_simp
  refine (encodeTextAt w0 _ _ _ t HF.out.ht O3 (by simp only [List.length_append, List.length_cons, List.length_nil]; omega)).mono ?_
  rintro e w3 ⟨v3, rfl, O4, hx3⟩
  have hb3 := hHeld.bx hx3
  refine hK.out _ _ hb3 (fun hHeld2 => ?_)
  clear hK K hHeld
  try simp only [Act.put, List.getElem_toArray, List.getElem_cons_succ, List.getElem_cons_zero, List.setIfInBounds_toArray, List.set_cons_zero, List.set_cons_succ]
  refine wpAnyH_ready (rs := [6]) (by kernel_rfl) (by simp) ?_
  refine AllReadyH.cons rfl (fun K hK => ?_) AllReadyH.nil
  rw [if_pos (by rfl)]
  go_simp
  refine (encodeTextAt w0 _ _ _ x HF.out.hx O4 (by have := HF.out.ht; simp only [List.length_append, List.length_cons, List.length_nil, lenB_length]; omega)).mono ?_
  rintro e w4 ⟨v4, rfl, O5, hx4⟩
  have hb4 := hb3.bx hx4
  refine hK.out _ _ hb4 (fun hHeld3 => ?_)
  clear hK K hHeld2
  try simp only [Act.put, List.getElem_toArray, List.getElem_cons_succ, List.getElem_cons_zero, List.setIfInBounds_toArray, List.set_cons_zero, List.set_cons_succ]
  refine wpAnyH_take (i := 7) (v := v4) rfl (by kernel_rfl) (by kernel_rfl) (by kernel_rfl) (fun _ _ _ h => h) (Or.inl ⟨by rfl, fun W _ => by go_simp⟩) hHeld3 ?_
  try simp only [Act.put, List.getElem_toArray, List.getElem_cons_succ, List.getElem_cons_zero, List.setIfInBounds_toArray, List.set_cons_zero, List.set_cons_succ]
  refine wpAnyH_done (by kernel_rfl) ?_ _
  have HO := Lib.hid O5
  clear O5 O4 O3
  go_wp2_with fail
  go_ret
  exact ⟨_, rfl, by unfold encP; simpa using HO.out⟩

end Go.Proofs.YtffbcccbhofbpaaGreatDoor
