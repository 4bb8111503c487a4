/- Texts of one kind, one behind the other: each says ahead of itself what it shows. -/
import Derived.Test.YtoifjjgakblhhaaGreatDoorHaq
import Derived.Test.YtoifjjgakblhhaaGreatDoorHaf
import Derived.Test.YtoifjjgakblhhaaGreatDoorHal
/- How a value is encoded: the kinds one by one. -/

namespace Go.Proofs.YtoifjjgakblhhaaGreatDoor
open Go.RowKit

theorem byteOf_zero (n : Int) : ((byteOf n 0).toNat : Int) = n % 256 := by
  rw [byteOf_int]
  simp
theorem strange {k : Int} (h : kindT k = 124) : k ≠ 0 ∧ k ≠ 1 ∧ k ≠ 2 ∧ k ≠ 3 ∧ k ≠ 4 ∧ k ≠ 5 ∧ k ≠ 6 ∧ k ≠ 7 ∧ k ≠ 8 ∧ k ≠ 9 ∧ k ≠ 10 := by
  refine ⟨?_, ?_, ?_, ?_, ?_, ?_, ?_, ?_, ?_, ?_, ?_⟩ <;> (rintro rfl; revert h; decide)
theorem wrapU (n : Int) : IntKind.u64.wrap n = n % 18446744073709551616 := rfl
/-- What encode tells. -/
def EncPost (w0 : World) (l : List UInt8) (v : Val) (e : Ending) (w' : World) : Prop := ∃ A', e = .returned A' ∧ OwnB w0 A' (l ++ encP v) w'

set_option maxRecDepth 20000 in
set_option maxHeartbeats 6400000 in
theorem encNull (w0 w : World) (A : Value) (l : List UInt8) (b : Bool) (n : Int) (t x : ByteArray) (p : Option Addr) (q : List Val) (cap : Nat) (hf : Fine n t x q.length) (h : OwnB w0 A l w) (hl : l.length ≤ 800000000) :
    Calls Tryz.prog 68 #[A, .agg #[.int .i64 0, .bool b, .int .i64 n, .string t, .string x, .slice p q.length cap]] w (EncPost w0 l (.mk 0 b n t x q)) := by
  obtain ⟨i0, hi, hz0, hz1, hz2⟩ := info_parts info5
  obtain ⟨W0, hW0⟩ : ∃ W0, W0 = w.alloc (.cells #[.int .i64 0, .bool b, .int .i64 n, .string t, .string x, .slice p q.length cap] 28) := ⟨_, rfl⟩
  have S : Six W0 w.heap.size 0 b n t x p q.length cap := by rw [hW0]; exact six_new _ rfl
  have hne := h.ne
  have O : OwnB w0 A l W0 := by rw [hW0]; exact h.alloc _
  have hown := O.own
  have f0 := S.c0
  have HS : Hid (W0.heap.size = w.heap.size + 1) := Lib.hid (by rw [hW0]; simp)
  have hlo : w0.heap.size ≤ w.heap.size := h.lo
  have H0 := Lib.hid hW0
  have HF := Lib.hid hf
  clear hW0 h hf
  go_enter Tryz.func68, Tryz.ntmps68
  go_wp2_with (at_builtin; rw [← H0.out]; refine wpList_append_own _ rfl _ _ 40 rfl w0.heap.size 5 i0 (.int .u8 0) 1 1 Tryz.underlying40 hi hz0 hz1 hz2 rfl (by decide) _ _ _ rfl (hown.alloc _) ⟨w.heap.size + 1, 0, none⟩ 1 1 [.int .u8 (0)] rfl rfl ?_ ?_ ?_ ?_ ?_ ?_)
  all_goals (try (first | rfl | (unfold maxLen; omega) | omega | (simp [HS.out]; omega) | (intro u hu; simp at hu; subst hu; rfl) | (rw [← HS.out]; exact cell_one_new _ _ _) | (simp; done)))
  intro v1 w1 hown1 hgrow _
  have O1 := (O.alloc _).say (l' := l ++ [byteOf 0 0]) hown1 hgrow (by simp) (by rw [vals_append, vals_one _ (byteOf_zero _)]; rfl)
  have S1 := (S.alloc (.cells #[.int .u8 (0)] 5)).grown hgrow hne
  clear hgrow hown1 hown O S f0 H0
  go_wp2_with (first
    | ((with_reducible refine wpList_load6 (.tmp 3) w.heap.size S1 ?_ ?_ ?_ ?_); rfl; rfl; rfl)
    | (go_at_call 72; (with_reducible refine (kindOfAt 0 _ _ _ _ _ 80 rfl _).mono ?_); rintro e w2 ⟨rfl, hb2⟩; have O2 := O1.after hb2; have S2 := S1.below hb2; have f0 := S2.c0; have f1 := S2.c1; have f2 := S2.c2; have f3 := S2.c3; have f4 := S2.c4; have f5 := S2.c5; clear hb2 O1 S1)
    | (simp only [ta80_80, ta80_81, ta80_82, ta80_83, ta80_84, ta80_85, ta80_87, ta80_88, ta80_89, ta80_90, ta80_91, Result.andThen_ok]))
  have HO := Lib.hid O2
  clear O2
  go_wp2_with fail
  go_ret
  exact ⟨_, rfl, by unfold encP; simpa using HO.out⟩

set_option maxRecDepth 20000 in
set_option maxHeartbeats 6400000 in
theorem encWhole (w0 w : World) (A : Value) (l : List UInt8) (b : Bool) (n : Int) (t x : ByteArray) (p : Option Addr) (q : List Val) (cap : Nat) (hf : Fine n t x q.length) (h : OwnB w0 A l w) (hl : l.length ≤ 800000000) :
    Calls Tryz.prog 68 #[A, .agg #[.int .i64 2, .bool b, .int .i64 n, .string t, .string x, .slice p q.length cap]] w (EncPost w0 l (.mk 2 b n t x q)) := by
  obtain ⟨i0, hi, hz0, hz1, hz2⟩ := info_parts info5
  obtain ⟨W0, hW0⟩ : ∃ W0, W0 = w.alloc (.cells #[.int .i64 2, .bool b, .int .i64 n, .string t, .string x, .slice p q.length cap] 28) := ⟨_, rfl⟩
  have S : Six W0 w.heap.size 2 b n t x p q.length cap := by rw [hW0]; exact six_new _ rfl
  have hne := h.ne
  have O : OwnB w0 A l W0 := by rw [hW0]; exact h.alloc _
  have hown := O.own
  have f0 := S.c0
  have HS : Hid (W0.heap.size = w.heap.size + 1) := Lib.hid (by rw [hW0]; simp)
  have hlo : w0.heap.size ≤ w.heap.size := h.lo
  have H0 := Lib.hid hW0
  have HF := Lib.hid hf
  clear hW0 h hf
  have hI : ∀ W A L, OwnB w0 A L W → L.length ≤ 1000000000 → Calls Tryz.prog 107 #[A, .int .u64 (IntKind.u64.wrap n), .int .i64 8] W fun e w' => ∃ A', e = .returned A' ∧ OwnB w0 A' (L ++ beB n 8) w' ∧ Bx W w' := fun W A L hO hL => by
    have := encodeIntAt w0 W A L (n % 18446744073709551616) 8 (by omega) (by omega) (by omega) hO hL
    rw [beB_mod n 8 (by omega), ← wrapU n] at this
    exact this
  go_enter Tryz.func68, Tryz.ntmps68
  go_wp2_with (at_builtin; rw [← H0.out]; refine wpList_append_own _ rfl _ _ 40 rfl w0.heap.size 5 i0 (.int .u8 0) 1 1 Tryz.underlying40 hi hz0 hz1 hz2 rfl (by decide) _ _ _ rfl (hown.alloc _) ⟨w.heap.size + 1, 0, none⟩ 1 1 [.int .u8 (2)] rfl rfl ?_ ?_ ?_ ?_ ?_ ?_)
  all_goals (try (first | rfl | (unfold maxLen; omega) | omega | (simp [HS.out]; omega) | (intro u hu; simp at hu; subst hu; rfl) | (rw [← HS.out]; exact cell_one_new _ _ _) | (simp; done)))
  intro v1 w1 hown1 hgrow _
  have O1 := (O.alloc _).say (l' := l ++ [byteOf 2 0]) hown1 hgrow (by simp) (by rw [vals_append, vals_one _ (byteOf_zero _)]; rfl)
  have S1 := (S.alloc (.cells #[.int .u8 (2)] 5)).grown hgrow hne
  clear hgrow hown1 hown O S f0 H0
  go_wp2_with (first
    | ((with_reducible refine wpList_load6 (.tmp 3) w.heap.size S1 ?_ ?_ ?_ ?_); rfl; rfl; rfl)
    | (go_at_call 72; (with_reducible refine (kindOfAt 2 _ _ _ _ _ 82 rfl _).mono ?_); rintro e w2 ⟨rfl, hb2⟩; have O2 := O1.after hb2; have S2 := S1.below hb2; have f0 := S2.c0; have f1 := S2.c1; have f2 := S2.c2; have f3 := S2.c3; have f4 := S2.c4; have f5 := S2.c5; clear hb2 O1 S1)
    | (simp only [ta82_80, ta82_81, ta82_82, ta82_83, ta82_84, ta82_85, ta82_87, ta82_88, ta82_89, ta82_90, ta82_91, Result.andThen_ok])
    | (go_at_call 107; (with_reducible refine (hI _ _ _ O2 (by simp only [List.length_append, List.length_cons, List.length_nil]; omega)).mono ?_); rintro e w3 ⟨v3, rfl, O3, hx3⟩; clear f0 f1 f2 f3 f4 f5 O2 S2))
  have HO := Lib.hid O3
  clear O3
  go_wp2_with fail
  go_ret
  exact ⟨_, rfl, by unfold encP; simpa using HO.out⟩

set_option maxRecDepth 20000 in
set_option maxHeartbeats 6400000 in
theorem encNode (w0 w : World) (A : Value) (l : List UInt8) (b : Bool) (n : Int) (t x : ByteArray) (p : Option Addr) (q : List Val) (cap : Nat) (hf : Fine n t x q.length) (h : OwnB w0 A l w) (hl : l.length ≤ 800000000) :
    Calls Tryz.prog 68 #[A, .agg #[.int .i64 6, .bool b, .int .i64 n, .string t, .string x, .slice p q.length cap]] w (EncPost w0 l (.mk 6 b n t x q)) := by
  obtain ⟨i0, hi, hz0, hz1, hz2⟩ := info_parts info5
  obtain ⟨W0, hW0⟩ : ∃ W0, W0 = w.alloc (.cells #[.int .i64 6, .bool b, .int .i64 n, .string t, .string x, .slice p q.length cap] 28) := ⟨_, rfl⟩
  have S : Six W0 w.heap.size 6 b n t x p q.length cap := by rw [hW0]; exact six_new _ rfl
  have hne := h.ne
  have O : OwnB w0 A l W0 := by rw [hW0]; exact h.alloc _
  have hown := O.own
  have f0 := S.c0
  have HS : Hid (W0.heap.size = w.heap.size + 1) := Lib.hid (by rw [hW0]; simp)
  have hlo : w0.heap.size ≤ w.heap.size := h.lo
  have H0 := Lib.hid hW0
  have HF := Lib.hid hf
  clear hW0 h hf
  have hI : ∀ W A L, OwnB w0 A L W → L.length ≤ 1000000000 → Calls Tryz.prog 107 #[A, .int .u64 (IntKind.u64.wrap n), .int .i64 8] W fun e w' => ∃ A', e = .returned A' ∧ OwnB w0 A' (L ++ beB n 8) w' ∧ Bx W w' := fun W A L hO hL => by
    have := encodeIntAt w0 W A L (n % 18446744073709551616) 8 (by omega) (by omega) (by omega) hO hL
    rw [beB_mod n 8 (by omega), ← wrapU n] at this
    exact this
  go_enter Tryz.func68, Tryz.ntmps68
  go_wp2_with (at_builtin; rw [← H0.out]; refine wpList_append_own _ rfl _ _ 40 rfl w0.heap.size 5 i0 (.int .u8 0) 1 1 Tryz.underlying40 hi hz0 hz1 hz2 rfl (by decide) _ _ _ rfl (hown.alloc _) ⟨w.heap.size + 1, 0, none⟩ 1 1 [.int .u8 (6)] rfl rfl ?_ ?_ ?_ ?_ ?_ ?_)
  all_goals (try (first | rfl | (unfold maxLen; omega) | omega | (simp [HS.out]; omega) | (intro u hu; simp at hu; subst hu; rfl) | (rw [← HS.out]; exact cell_one_new _ _ _) | (simp; done)))
  intro v1 w1 hown1 hgrow _
  have O1 := (O.alloc _).say (l' := l ++ [byteOf 6 0]) hown1 hgrow (by simp) (by rw [vals_append, vals_one _ (byteOf_zero _)]; rfl)
  have S1 := (S.alloc (.cells #[.int .u8 (6)] 5)).grown hgrow hne
  clear hgrow hown1 hown O S f0 H0
  go_wp2_with (first
    | ((with_reducible refine wpList_load6 (.tmp 3) w.heap.size S1 ?_ ?_ ?_ ?_); rfl; rfl; rfl)
    | (go_at_call 72; (with_reducible refine (kindOfAt 6 _ _ _ _ _ 83 rfl _).mono ?_); rintro e w2 ⟨rfl, hb2⟩; have O2 := O1.after hb2; have S2 := S1.below hb2; have f0 := S2.c0; have f1 := S2.c1; have f2 := S2.c2; have f3 := S2.c3; have f4 := S2.c4; have f5 := S2.c5; clear hb2 O1 S1)
    | (simp only [ta83_80, ta83_81, ta83_82, ta83_83, ta83_84, ta83_85, ta83_87, ta83_88, ta83_89, ta83_90, ta83_91, Result.andThen_ok])
    | (go_at_call 107; (with_reducible refine (hI _ _ _ O2 (by simp only [List.length_append, List.length_cons, List.length_nil]; omega)).mono ?_); rintro e w3 ⟨v3, rfl, O3, hx3⟩; clear f0 f1 f2 f3 f4 f5 O2 S2))
  have HO := Lib.hid O3
  clear O3
  go_wp2_with fail
  go_ret
  exact ⟨_, rfl, by unfold encP; simpa using HO.out⟩

set_option maxRecDepth 20000 in
set_option maxHeartbeats 6400000 in
theorem encEdge (w0 w : World) (A : Value) (l : List UInt8) (b : Bool) (n : Int) (t x : ByteArray) (p : Option Addr) (q : List Val) (cap : Nat) (hf : Fine n t x q.length) (h : OwnB w0 A l w) (hl : l.length ≤ 800000000) :
    Calls Tryz.prog 68 #[A, .agg #[.int .i64 7, .bool b, .int .i64 n, .string t, .string x, .slice p q.length cap]] w (EncPost w0 l (.mk 7 b n t x q)) := by
  obtain ⟨i0, hi, hz0, hz1, hz2⟩ := info_parts info5
  obtain ⟨W0, hW0⟩ : ∃ W0, W0 = w.alloc (.cells #[.int .i64 7, .bool b, .int .i64 n, .string t, .string x, .slice p q.length cap] 28) := ⟨_, rfl⟩
  have S : Six W0 w.heap.size 7 b n t x p q.length cap := by rw [hW0]; exact six_new _ rfl
  have hne := h.ne
  have O : OwnB w0 A l W0 := by rw [hW0]; exact h.alloc _
  have hown := O.own
  have f0 := S.c0
  have HS : Hid (W0.heap.size = w.heap.size + 1) := Lib.hid (by rw [hW0]; simp)
  have hlo : w0.heap.size ≤ w.heap.size := h.lo
  have H0 := Lib.hid hW0
  have HF := Lib.hid hf
  clear hW0 h hf
  have hI : ∀ W A L, OwnB w0 A L W → L.length ≤ 1000000000 → Calls Tryz.prog 107 #[A, .int .u64 (IntKind.u64.wrap n), .int .i64 8] W fun e w' => ∃ A', e = .returned A' ∧ OwnB w0 A' (L ++ beB n 8) w' ∧ Bx W w' := fun W A L hO hL => by
    have := encodeIntAt w0 W A L (n % 18446744073709551616) 8 (by omega) (by omega) (by omega) hO hL
    rw [beB_mod n 8 (by omega), ← wrapU n] at this
    exact this
  go_enter Tryz.func68, Tryz.ntmps68
  go_wp2_with (at_builtin; rw [← H0.out]; refine wpList_append_own _ rfl _ _ 40 rfl w0.heap.size 5 i0 (.int .u8 0) 1 1 Tryz.underlying40 hi hz0 hz1 hz2 rfl (by decide) _ _ _ rfl (hown.alloc _) ⟨w.heap.size + 1, 0, none⟩ 1 1 [.int .u8 (7)] rfl rfl ?_ ?_ ?_ ?_ ?_ ?_)
  all_goals (try (first | rfl | (unfold maxLen; omega) | omega | (simp [HS.out]; omega) | (intro u hu; simp at hu; subst hu; rfl) | (rw [← HS.out]; exact cell_one_new _ _ _) | (simp; done)))
  intro v1 w1 hown1 hgrow _
  have O1 := (O.alloc _).say (l' := l ++ [byteOf 7 0]) hown1 hgrow (by simp) (by rw [vals_append, vals_one _ (byteOf_zero _)]; rfl)
  have S1 := (S.alloc (.cells #[.int .u8 (7)] 5)).grown hgrow hne
  clear hgrow hown1 hown O S f0 H0
  go_wp2_with (first
    | ((with_reducible refine wpList_load6 (.tmp 3) w.heap.size S1 ?_ ?_ ?_ ?_); rfl; rfl; rfl)
    | (go_at_call 72; (with_reducible refine (kindOfAt 7 _ _ _ _ _ 84 rfl _).mono ?_); rintro e w2 ⟨rfl, hb2⟩; have O2 := O1.after hb2; have S2 := S1.below hb2; have f0 := S2.c0; have f1 := S2.c1; have f2 := S2.c2; have f3 := S2.c3; have f4 := S2.c4; have f5 := S2.c5; clear hb2 O1 S1)
    | (simp only [ta84_80, ta84_81, ta84_82, ta84_83, ta84_84, ta84_85, ta84_87, ta84_88, ta84_89, ta84_90, ta84_91, Result.andThen_ok])
    | (go_at_call 107; (with_reducible refine (hI _ _ _ O2 (by simp only [List.length_append, List.length_cons, List.length_nil]; omega)).mono ?_); rintro e w3 ⟨v3, rfl, O3, hx3⟩; clear f0 f1 f2 f3 f4 f5 O2 S2))
  have HO := Lib.hid O3
  clear O3
  go_wp2_with fail
  go_ret
  exact ⟨_, rfl, by unfold encP; simpa using HO.out⟩

set_option maxRecDepth 20000 in
set_option maxHeartbeats 6400000 in
theorem encExact (w0 w : World) (A : Value) (l : List UInt8) (b : Bool) (n : Int) (t x : ByteArray) (p : Option Addr) (q : List Val) (cap : Nat) (hf : Fine n t x q.length) (h : OwnB w0 A l w) (hl : l.length ≤ 800000000) :
    Calls Tryz.prog 68 #[A, .agg #[.int .i64 3, .bool b, .int .i64 n, .string t, .string x, .slice p q.length cap]] w (EncPost w0 l (.mk 3 b n t x q)) := by
  obtain ⟨i0, hi, hz0, hz1, hz2⟩ := info_parts info5
  obtain ⟨W0, hW0⟩ : ∃ W0, W0 = w.alloc (.cells #[.int .i64 3, .bool b, .int .i64 n, .string t, .string x, .slice p q.length cap] 28) := ⟨_, rfl⟩
  have S : Six W0 w.heap.size 3 b n t x p q.length cap := by rw [hW0]; exact six_new _ rfl
  have hne := h.ne
  have O : OwnB w0 A l W0 := by rw [hW0]; exact h.alloc _
  have hown := O.own
  have f0 := S.c0
  have HS : Hid (W0.heap.size = w.heap.size + 1) := Lib.hid (by rw [hW0]; simp)
  have hlo : w0.heap.size ≤ w.heap.size := h.lo
  have H0 := Lib.hid hW0
  have HF := Lib.hid hf
  clear hW0 h hf
  go_enter Tryz.func68, Tryz.ntmps68
  go_wp2_with (at_builtin; rw [← H0.out]; refine wpList_append_own _ rfl _ _ 40 rfl w0.heap.size 5 i0 (.int .u8 0) 1 1 Tryz.underlying40 hi hz0 hz1 hz2 rfl (by decide) _ _ _ rfl (hown.alloc _) ⟨w.heap.size + 1, 0, none⟩ 1 1 [.int .u8 (3)] rfl rfl ?_ ?_ ?_ ?_ ?_ ?_)
  all_goals (try (first | rfl | (unfold maxLen; omega) | omega | (simp [HS.out]; omega) | (intro u hu; simp at hu; subst hu; rfl) | (rw [← HS.out]; exact cell_one_new _ _ _) | (simp; done)))
  intro v1 w1 hown1 hgrow _
  have O1 := (O.alloc _).say (l' := l ++ [byteOf 3 0]) hown1 hgrow (by simp) (by rw [vals_append, vals_one _ (byteOf_zero _)]; rfl)
  have S1 := (S.alloc (.cells #[.int .u8 (3)] 5)).grown hgrow hne
  clear hgrow hown1 hown O S f0 H0
  go_wp2_with (first
    | ((with_reducible refine wpList_load6 (.tmp 3) w.heap.size S1 ?_ ?_ ?_ ?_); rfl; rfl; rfl)
    | (go_at_call 72; (with_reducible refine (kindOfAt 3 _ _ _ _ _ 85 rfl _).mono ?_); rintro e w2 ⟨rfl, hb2⟩; have O2 := O1.after hb2; have S2 := S1.below hb2; have f0 := S2.c0; have f1 := S2.c1; have f2 := S2.c2; have f3 := S2.c3; have f4 := S2.c4; have f5 := S2.c5; clear hb2 O1 S1)
    | (simp only [ta85_80, ta85_81, ta85_82, ta85_83, ta85_84, ta85_85, ta85_87, ta85_88, ta85_89, ta85_90, ta85_91, Result.andThen_ok])
    | (go_at_call 108; (with_reducible refine (encodeTextAt w0 _ _ _ t HF.out.ht O2 (by simp only [List.length_append, List.length_cons, List.length_nil]; omega)).mono ?_); rintro e w3 ⟨v3, rfl, O3, hx3⟩; clear f0 f1 f2 f3 f4 f5 O2 S2))
  have HO := Lib.hid O3
  clear O3
  go_wp2_with fail
  go_ret
  exact ⟨_, rfl, by unfold encP; simpa using HO.out⟩

set_option maxRecDepth 20000 in
set_option maxHeartbeats 6400000 in
theorem encText (w0 w : World) (A : Value) (l : List UInt8) (b : Bool) (n : Int) (t x : ByteArray) (p : Option Addr) (q : List Val) (cap : Nat) (hf : Fine n t x q.length) (h : OwnB w0 A l w) (hl : l.length ≤ 800000000) :
    Calls Tryz.prog 68 #[A, .agg #[.int .i64 4, .bool b, .int .i64 n, .string t, .string x, .slice p q.length cap]] w (EncPost w0 l (.mk 4 b n t x q)) := by
  obtain ⟨i0, hi, hz0, hz1, hz2⟩ := info_parts info5
  obtain ⟨W0, hW0⟩ : ∃ W0, W0 = w.alloc (.cells #[.int .i64 4, .bool b, .int .i64 n, .string t, .string x, .slice p q.length cap] 28) := ⟨_, rfl⟩
  have S : Six W0 w.heap.size 4 b n t x p q.length cap := by rw [hW0]; exact six_new _ rfl
  have hne := h.ne
  have O : OwnB w0 A l W0 := by rw [hW0]; exact h.alloc _
  have hown := O.own
  have f0 := S.c0
  have HS : Hid (W0.heap.size = w.heap.size + 1) := Lib.hid (by rw [hW0]; simp)
  have hlo : w0.heap.size ≤ w.heap.size := h.lo
  have H0 := Lib.hid hW0
  have HF := Lib.hid hf
  clear hW0 h hf
  go_enter Tryz.func68, Tryz.ntmps68
  go_wp2_with (at_builtin; rw [← H0.out]; refine wpList_append_own _ rfl _ _ 40 rfl w0.heap.size 5 i0 (.int .u8 0) 1 1 Tryz.underlying40 hi hz0 hz1 hz2 rfl (by decide) _ _ _ rfl (hown.alloc _) ⟨w.heap.size + 1, 0, none⟩ 1 1 [.int .u8 (4)] rfl rfl ?_ ?_ ?_ ?_ ?_ ?_)
  all_goals (try (first | rfl | (unfold maxLen; omega) | omega | (simp [HS.out]; omega) | (intro u hu; simp at hu; subst hu; rfl) | (rw [← HS.out]; exact cell_one_new _ _ _) | (simp; done)))
  intro v1 w1 hown1 hgrow _
  have O1 := (O.alloc _).say (l' := l ++ [byteOf 4 0]) hown1 hgrow (by simp) (by rw [vals_append, vals_one _ (byteOf_zero _)]; rfl)
  have S1 := (S.alloc (.cells #[.int .u8 (4)] 5)).grown hgrow hne
  clear hgrow hown1 hown O S f0 H0
  go_wp2_with (first
    | ((with_reducible refine wpList_load6 (.tmp 3) w.heap.size S1 ?_ ?_ ?_ ?_); rfl; rfl; rfl)
    | (go_at_call 72; (with_reducible refine (kindOfAt 4 _ _ _ _ _ 87 rfl _).mono ?_); rintro e w2 ⟨rfl, hb2⟩; have O2 := O1.after hb2; have S2 := S1.below hb2; have f0 := S2.c0; have f1 := S2.c1; have f2 := S2.c2; have f3 := S2.c3; have f4 := S2.c4; have f5 := S2.c5; clear hb2 O1 S1)
    | (simp only [ta87_80, ta87_81, ta87_82, ta87_83, ta87_84, ta87_85, ta87_87, ta87_88, ta87_89, ta87_90, ta87_91, Result.andThen_ok])
    | (go_at_call 108; (with_reducible refine (encodeTextAt w0 _ _ _ t HF.out.ht O2 (by simp only [List.length_append, List.length_cons, List.length_nil]; omega)).mono ?_); rintro e w3 ⟨v3, rfl, O3, hx3⟩; clear f0 f1 f2 f3 f4 f5 O2 S2))
  have HO := Lib.hid O3
  clear O3
  go_wp2_with fail
  go_ret
  exact ⟨_, rfl, by unfold encP; simpa using HO.out⟩

set_option maxRecDepth 20000 in
set_option maxHeartbeats 6400000 in
theorem encIri (w0 w : World) (A : Value) (l : List UInt8) (b : Bool) (n : Int) (t x : ByteArray) (p : Option Addr) (q : List Val) (cap : Nat) (hf : Fine n t x q.length) (h : OwnB w0 A l w) (hl : l.length ≤ 800000000) :
    Calls Tryz.prog 68 #[A, .agg #[.int .i64 8, .bool b, .int .i64 n, .string t, .string x, .slice p q.length cap]] w (EncPost w0 l (.mk 8 b n t x q)) := by
  obtain ⟨i0, hi, hz0, hz1, hz2⟩ := info_parts info5
  obtain ⟨W0, hW0⟩ : ∃ W0, W0 = w.alloc (.cells #[.int .i64 8, .bool b, .int .i64 n, .string t, .string x, .slice p q.length cap] 28) := ⟨_, rfl⟩
  have S : Six W0 w.heap.size 8 b n t x p q.length cap := by rw [hW0]; exact six_new _ rfl
  have hne := h.ne
  have O : OwnB w0 A l W0 := by rw [hW0]; exact h.alloc _
  have hown := O.own
  have f0 := S.c0
  have HS : Hid (W0.heap.size = w.heap.size + 1) := Lib.hid (by rw [hW0]; simp)
  have hlo : w0.heap.size ≤ w.heap.size := h.lo
  have H0 := Lib.hid hW0
  have HF := Lib.hid hf
  clear hW0 h hf
  go_enter Tryz.func68, Tryz.ntmps68
  go_wp2_with (at_builtin; rw [← H0.out]; refine wpList_append_own _ rfl _ _ 40 rfl w0.heap.size 5 i0 (.int .u8 0) 1 1 Tryz.underlying40 hi hz0 hz1 hz2 rfl (by decide) _ _ _ rfl (hown.alloc _) ⟨w.heap.size + 1, 0, none⟩ 1 1 [.int .u8 (8)] rfl rfl ?_ ?_ ?_ ?_ ?_ ?_)
  all_goals (try (first | rfl | (unfold maxLen; omega) | omega | (simp [HS.out]; omega) | (intro u hu; simp at hu; subst hu; rfl) | (rw [← HS.out]; exact cell_one_new _ _ _) | (simp; done)))
  intro v1 w1 hown1 hgrow _
  have O1 := (O.alloc _).say (l' := l ++ [byteOf 8 0]) hown1 hgrow (by simp) (by rw [vals_append, vals_one _ (byteOf_zero _)]; rfl)
  have S1 := (S.alloc (.cells #[.int .u8 (8)] 5)).grown hgrow hne
  clear hgrow hown1 hown O S f0 H0
  go_wp2_with (first
    | ((with_reducible refine wpList_load6 (.tmp 3) w.heap.size S1 ?_ ?_ ?_ ?_); rfl; rfl; rfl)
    | (go_at_call 72; (with_reducible refine (kindOfAt 8 _ _ _ _ _ 88 rfl _).mono ?_); rintro e w2 ⟨rfl, hb2⟩; have O2 := O1.after hb2; have S2 := S1.below hb2; have f0 := S2.c0; have f1 := S2.c1; have f2 := S2.c2; have f3 := S2.c3; have f4 := S2.c4; have f5 := S2.c5; clear hb2 O1 S1)
    | (simp only [ta88_80, ta88_81, ta88_82, ta88_83, ta88_84, ta88_85, ta88_87, ta88_88, ta88_89, ta88_90, ta88_91, Result.andThen_ok])
    | (go_at_call 108; (with_reducible refine (encodeTextAt w0 _ _ _ t HF.out.ht O2 (by simp only [List.length_append, List.length_cons, List.length_nil]; omega)).mono ?_); rintro e w3 ⟨v3, rfl, O3, hx3⟩; clear f0 f1 f2 f3 f4 f5 O2 S2))
  have HO := Lib.hid O3
  clear O3
  go_wp2_with fail
  go_ret
  exact ⟨_, rfl, by unfold encP; simpa using HO.out⟩

set_option maxRecDepth 20000 in
set_option maxHeartbeats 6400000 in
theorem encBlank (w0 w : World) (A : Value) (l : List UInt8) (b : Bool) (n : Int) (t x : ByteArray) (p : Option Addr) (q : List Val) (cap : Nat) (hf : Fine n t x q.length) (h : OwnB w0 A l w) (hl : l.length ≤ 800000000) :
    Calls Tryz.prog 68 #[A, .agg #[.int .i64 9, .bool b, .int .i64 n, .string t, .string x, .slice p q.length cap]] w (EncPost w0 l (.mk 9 b n t x q)) := by
  obtain ⟨i0, hi, hz0, hz1, hz2⟩ := info_parts info5
  obtain ⟨W0, hW0⟩ : ∃ W0, W0 = w.alloc (.cells #[.int .i64 9, .bool b, .int .i64 n, .string t, .string x, .slice p q.length cap] 28) := ⟨_, rfl⟩
  have S : Six W0 w.heap.size 9 b n t x p q.length cap := by rw [hW0]; exact six_new _ rfl
  have hne := h.ne
  have O : OwnB w0 A l W0 := by rw [hW0]; exact h.alloc _
  have hown := O.own
  have f0 := S.c0
  have HS : Hid (W0.heap.size = w.heap.size + 1) := Lib.hid (by rw [hW0]; simp)
  have hlo : w0.heap.size ≤ w.heap.size := h.lo
  have H0 := Lib.hid hW0
  have HF := Lib.hid hf
  clear hW0 h hf
  go_enter Tryz.func68, Tryz.ntmps68
  go_wp2_with (at_builtin; rw [← H0.out]; refine wpList_append_own _ rfl _ _ 40 rfl w0.heap.size 5 i0 (.int .u8 0) 1 1 Tryz.underlying40 hi hz0 hz1 hz2 rfl (by decide) _ _ _ rfl (hown.alloc _) ⟨w.heap.size + 1, 0, none⟩ 1 1 [.int .u8 (9)] rfl rfl ?_ ?_ ?_ ?_ ?_ ?_)
  all_goals (try (first | rfl | (unfold maxLen; omega) | omega | (simp [HS.out]; omega) | (intro u hu; simp at hu; subst hu; rfl) | (rw [← HS.out]; exact cell_one_new _ _ _) | (simp; done)))
  intro v1 w1 hown1 hgrow _
  have O1 := (O.alloc _).say (l' := l ++ [byteOf 9 0]) hown1 hgrow (by simp) (by rw [vals_append, vals_one _ (byteOf_zero _)]; rfl)
  have S1 := (S.alloc (.cells #[.int .u8 (9)] 5)).grown hgrow hne
  clear hgrow hown1 hown O S f0 H0
  go_wp2_with (first
    | ((with_reducible refine wpList_load6 (.tmp 3) w.heap.size S1 ?_ ?_ ?_ ?_); rfl; rfl; rfl)
    | (go_at_call 72; (with_reducible refine (kindOfAt 9 _ _ _ _ _ 89 rfl _).mono ?_); rintro e w2 ⟨rfl, hb2⟩; have O2 := O1.after hb2; have S2 := S1.below hb2; have f0 := S2.c0; have f1 := S2.c1; have f2 := S2.c2; have f3 := S2.c3; have f4 := S2.c4; have f5 := S2.c5; clear hb2 O1 S1)
    | (simp only [ta89_80, ta89_81, ta89_82, ta89_83, ta89_84, ta89_85, ta89_87, ta89_88, ta89_89, ta89_90, ta89_91, Result.andThen_ok])
    | (go_at_call 108; (with_reducible refine (encodeTextAt w0 _ _ _ t HF.out.ht O2 (by simp only [List.length_append, List.length_cons, List.length_nil]; omega)).mono ?_); rintro e w3 ⟨v3, rfl, O3, hx3⟩; clear f0 f1 f2 f3 f4 f5 O2 S2))
  have HO := Lib.hid O3
  clear O3
  go_wp2_with fail
  go_ret
  exact ⟨_, rfl, by unfold encP; simpa using HO.out⟩

set_option maxRecDepth 20000 in
set_option maxHeartbeats 6400000 in
theorem encStranger (w0 w : World) (A : Value) (l : List UInt8) (k : Int) (b : Bool) (n : Int) (t x : ByteArray) (p : Option Addr) (q : List Val) (cap : Nat) (hf : Fine n t x q.length) (h : OwnB w0 A l w) (hl : l.length ≤ 800000000) (hk : kindT k = 124) :
    Calls Tryz.prog 68 #[A, .agg #[.int .i64 k, .bool b, .int .i64 n, .string t, .string x, .slice p q.length cap]] w (EncPost w0 l (.mk k b n t x q)) := by
  obtain ⟨i0, hi, hz0, hz1, hz2⟩ := info_parts info5
  obtain ⟨W0, hW0⟩ : ∃ W0, W0 = w.alloc (.cells #[.int .i64 k, .bool b, .int .i64 n, .string t, .string x, .slice p q.length cap] 28) := ⟨_, rfl⟩
  have S : Six W0 w.heap.size k b n t x p q.length cap := by rw [hW0]; exact six_new _ rfl
  have hne := h.ne
  have O : OwnB w0 A l W0 := by rw [hW0]; exact h.alloc _
  have hown := O.own
  have f0 := S.c0
  have HS : Hid (W0.heap.size = w.heap.size + 1) := Lib.hid (by rw [hW0]; simp)
  have hlo : w0.heap.size ≤ w.heap.size := h.lo
  have H0 := Lib.hid hW0
  have HF := Lib.hid hf
  clear hW0 h hf
  go_enter Tryz.func68, Tryz.ntmps68
  go_wp2_with (at_builtin; rw [← H0.out]; refine wpList_append_own _ rfl _ _ 40 rfl w0.heap.size 5 i0 (.int .u8 0) 1 1 Tryz.underlying40 hi hz0 hz1 hz2 rfl (by decide) _ _ _ rfl (hown.alloc _) ⟨w.heap.size + 1, 0, none⟩ 1 1 [.int .u8 (k % 256)] rfl rfl ?_ ?_ ?_ ?_ ?_ ?_)
  all_goals (try (first | rfl | (unfold maxLen; omega) | omega | (simp [HS.out]; omega) | (intro u hu; simp at hu; subst hu; rfl) | (rw [← HS.out]; exact cell_one_new _ _ _) | (simp; done)))
  intro v1 w1 hown1 hgrow _
  have O1 := (O.alloc _).say (l' := l ++ [byteOf k 0]) hown1 hgrow (by simp) (by rw [vals_append, vals_one _ (byteOf_zero _)])
  have S1 := (S.alloc (.cells #[.int .u8 (k % 256)] 5)).grown hgrow hne
  clear hgrow hown1 hown O S f0 H0
  go_wp2_with (first
    | ((with_reducible refine wpList_load6 (.tmp 3) w.heap.size S1 ?_ ?_ ?_ ?_); rfl; rfl; rfl)
    | (go_at_call 72; (with_reducible refine (kindOfAt k _ _ _ _ _ 124 hk.symm _).mono ?_); rintro e w2 ⟨rfl, hb2⟩; have O2 := O1.after hb2; have S2 := S1.below hb2; have f0 := S2.c0; have f1 := S2.c1; have f2 := S2.c2; have f3 := S2.c3; have f4 := S2.c4; have f5 := S2.c5; clear hb2 O1 S1)
    | (simp only [ta124_80, ta124_81, ta124_82, ta124_83, ta124_84, ta124_85, ta124_87, ta124_88, ta124_89, ta124_90, ta124_91, Result.andThen_ok]))
  have HO := Lib.hid O2
  clear O2
  go_wp2_with fail
  go_ret
  exact ⟨_, rfl, by have hk2 := strange hk; unfold encP; simpa [hk2] using HO.out⟩

end Go.Proofs.YtoifjjgakblhhaaGreatDoor
