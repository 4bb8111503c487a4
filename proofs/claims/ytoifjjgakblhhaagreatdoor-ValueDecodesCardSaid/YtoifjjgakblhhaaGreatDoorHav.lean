/- Texts of one kind, one behind the other: each says ahead of itself what it shows. -/
import Derived.Test.YtoifjjgakblhhaaGreatDoorHau
import Derived.Test.YtoifjjgakblhhaaGreatDoorHal
import Derived.Deep.LoopGhost
/- The document's own encoding: the kinds one by one. -/
namespace Go.Proofs.YtoifjjgakblhhaaGreatDoor
open Go.RowKit

/-- What the document's own Bytes tells. -/
def RefPost (w : World) (v : Val) (e : Ending) (w' : World) : Prop := ∃ A', e = .returned A' ∧ OwnB w A' (encP v) w'
theorem OwnB.first (w : World) (k : Int) (o : Obj) (x : Int) (hx : k % 256 = x) : OwnB w (.slice (some ⟨w.heap.size + 1, 0, none⟩) 1 1) [byteOf k 0] ((w.alloc o).alloc (.cells #[.int .u8 x] 5)) := by
  have := OwnB.fresh w (w.alloc o) [byteOf k 0] #[.int .u8 x] 1 (by rw [vals_one _ (byteOf_zero k), hx]) rfl (by unfold maxLen; omega) (below1 _ _)
  have e : (w.alloc o).heap.size = w.heap.size + 1 := by simp
  rwa [e] at this

set_option maxRecDepth 20000 in
set_option maxHeartbeats 6400000 in
theorem bytNull (w : World) (b : Bool) (n : Int) (t x : ByteArray) (p : Option Addr) (q : List Val) (cap : Nat) (hf : Fine n t x q.length) :
    Calls Tryz.prog 69 #[.agg #[.int .i64 0, .bool b, .int .i64 n, .string t, .string x, .slice p q.length cap]] w (RefPost w (.mk 0 b n t x q)) := by
  obtain ⟨i0, hi, hz0, hz1, hz2⟩ := info_parts info5
  have O := OwnB.first w 0 (.cells #[.int .i64 0, .bool b, .int .i64 n, .string t, .string x, .slice p q.length cap] 28) 0 rfl
  have S : Six ((w.alloc (.cells #[.int .i64 0, .bool b, .int .i64 n, .string t, .string x, .slice p q.length cap] 28)).alloc (.cells #[.int .u8 0] 5)) w.heap.size 0 b n t x p q.length cap := (six_new _ rfl).alloc _
  obtain ⟨W1, hW1⟩ : ∃ W1, W1 = (w.alloc (.cells #[.int .i64 0, .bool b, .int .i64 n, .string t, .string x, .slice p q.length cap] 28)).alloc (.cells #[.int .u8 0] 5) := ⟨_, rfl⟩
  rw [← hW1] at O S
  have H1 := Lib.hid hW1
  have HF := Lib.hid hf
  have hn1 := hf.hn
  clear hW1 hf
  go_enter Tryz.func69, Tryz.ntmps69
  go_upto_region 2 with fail
  rw [← H1.out]
  have f0 := S.c0
  have f1 := S.c1
  have f2 := S.c2
  have f3 := S.c3
  have f4 := S.c4
  have f5 := S.c5
  have hown := O.own
  have hlo := O.lo
  clear H1
  have HO := Lib.hid O
  clear O hown
  go_wp2_with fail
  go_ret
  exact ⟨_, rfl, by unfold encP; simpa using HO.out⟩

set_option maxRecDepth 20000 in
set_option maxHeartbeats 6400000 in
theorem bytStranger (w : World) (k : Int) (b : Bool) (n : Int) (t x : ByteArray) (p : Option Addr) (q : List Val) (cap : Nat) (hf : Fine n t x q.length) (hk : kindT k = 124) :
    Calls Tryz.prog 69 #[.agg #[.int .i64 k, .bool b, .int .i64 n, .string t, .string x, .slice p q.length cap]] w (RefPost w (.mk k b n t x q)) := by
  obtain ⟨i0, hi, hz0, hz1, hz2⟩ := info_parts info5
  have O := OwnB.first w k (.cells #[.int .i64 k, .bool b, .int .i64 n, .string t, .string x, .slice p q.length cap] 28) (k % 256) rfl
  have S : Six ((w.alloc (.cells #[.int .i64 k, .bool b, .int .i64 n, .string t, .string x, .slice p q.length cap] 28)).alloc (.cells #[.int .u8 (k % 256)] 5)) w.heap.size k b n t x p q.length cap := (six_new _ rfl).alloc _
  obtain ⟨W1, hW1⟩ : ∃ W1, W1 = (w.alloc (.cells #[.int .i64 k, .bool b, .int .i64 n, .string t, .string x, .slice p q.length cap] 28)).alloc (.cells #[.int .u8 (k % 256)] 5) := ⟨_, rfl⟩
  rw [← hW1] at O S
  have H1 := Lib.hid hW1
  have HF := Lib.hid hf
  have hn1 := hf.hn
  clear hW1 hf
  go_enter Tryz.func69, Tryz.ntmps69
  go_upto_region 2 with fail
  rw [← H1.out]
  have f0 := S.c0
  have f1 := S.c1
  have f2 := S.c2
  have f3 := S.c3
  have f4 := S.c4
  have f5 := S.c5
  have hown := O.own
  have hlo := O.lo
  clear H1
  have HO := Lib.hid O
  clear O hown
  obtain ⟨h0, h1, h2, h3, h4, h5, h6, h7, h8, h9, h10⟩ := strange hk
  go_wp2_with fail
  go_ret
  exact ⟨_, rfl, by unfold encP; simpa [h1, h2, h3, h4, h5, h6, h7, h8, h9, h10] using HO.out⟩

set_option maxRecDepth 20000 in
set_option maxHeartbeats 6400000 in
theorem bytBoolTrue (w : World) (n : Int) (t x : ByteArray) (p : Option Addr) (q : List Val) (cap : Nat) (hf : Fine n t x q.length) :
    Calls Tryz.prog 69 #[.agg #[.int .i64 1, .bool true, .int .i64 n, .string t, .string x, .slice p q.length cap]] w (RefPost w (.mk 1 true n t x q)) := by
  obtain ⟨i0, hi, hz0, hz1, hz2⟩ := info_parts info5
  have O := OwnB.first w 1 (.cells #[.int .i64 1, .bool true, .int .i64 n, .string t, .string x, .slice p q.length cap] 28) 1 rfl
  have S : Six ((w.alloc (.cells #[.int .i64 1, .bool true, .int .i64 n, .string t, .string x, .slice p q.length cap] 28)).alloc (.cells #[.int .u8 1] 5)) w.heap.size 1 true n t x p q.length cap := (six_new _ rfl).alloc _
  obtain ⟨W1, hW1⟩ : ∃ W1, W1 = (w.alloc (.cells #[.int .i64 1, .bool true, .int .i64 n, .string t, .string x, .slice p q.length cap] 28)).alloc (.cells #[.int .u8 1] 5) := ⟨_, rfl⟩
  rw [← hW1] at O S
  have H1 := Lib.hid hW1
  have HF := Lib.hid hf
  have hn1 := hf.hn
  clear hW1 hf
  go_enter Tryz.func69, Tryz.ntmps69
  go_upto_region 2 with fail
  rw [← H1.out]
  have f0 := S.c0
  have f1 := S.c1
  have f2 := S.c2
  have f3 := S.c3
  have f4 := S.c4
  have f5 := S.c5
  have hown := O.own
  have hlo := O.lo
  clear H1
  have hlz : ∀ o : Obj, w.heap.size ≤ (W1.alloc o).heap.size := fun o => by simp; omega
  go_wp2_with (at_builtin; refine wpList_append_own _ rfl _ _ 40 rfl w.heap.size 5 i0 (.int .u8 0) 1 1 Tryz.underlying40 hi hz0 hz1 hz2 rfl (by decide) _ _ _ rfl (hown.alloc _) ⟨W1.heap.size, 0, none⟩ 1 1 [_] rfl rfl (cell_one_new _ (.int .u8 1) _) ?_ ?_ ?_ ?_ ?_)
  all_goals (try (first | rfl | (show 1 + 1 ≤ maxLen; unfold maxLen; omega) | (show (1 + 1) * 1 ≤ 140737488355328; omega) | exact hlz _ | (simp; omega) | (intro u hu; simp at hu; subst hu; rfl)))
  intro v3 w3 hown4 hgrow4 _
  have O3 := (O.alloc _).say (l' := [byteOf 1 0] ++ [1]) hown4 hgrow4 (by simp) (by rw [vals_append]; rfl)
  clear hown4 hgrow4 hown O
  have HO := Lib.hid O3
  clear O3
  go_wp2_with fail
  go_ret
  exact ⟨_, rfl, by unfold encP; simpa using HO.out⟩

set_option maxRecDepth 20000 in
set_option maxHeartbeats 6400000 in
theorem bytBoolFalse (w : World) (n : Int) (t x : ByteArray) (p : Option Addr) (q : List Val) (cap : Nat) (hf : Fine n t x q.length) :
    Calls Tryz.prog 69 #[.agg #[.int .i64 1, .bool false, .int .i64 n, .string t, .string x, .slice p q.length cap]] w (RefPost w (.mk 1 false n t x q)) := by
  obtain ⟨i0, hi, hz0, hz1, hz2⟩ := info_parts info5
  have O := OwnB.first w 1 (.cells #[.int .i64 1, .bool false, .int .i64 n, .string t, .string x, .slice p q.length cap] 28) 1 rfl
  have S : Six ((w.alloc (.cells #[.int .i64 1, .bool false, .int .i64 n, .string t, .string x, .slice p q.length cap] 28)).alloc (.cells #[.int .u8 1] 5)) w.heap.size 1 false n t x p q.length cap := (six_new _ rfl).alloc _
  obtain ⟨W1, hW1⟩ : ∃ W1, W1 = (w.alloc (.cells #[.int .i64 1, .bool false, .int .i64 n, .string t, .string x, .slice p q.length cap] 28)).alloc (.cells #[.int .u8 1] 5) := ⟨_, rfl⟩
  rw [← hW1] at O S
  have H1 := Lib.hid hW1
  have HF := Lib.hid hf
  have hn1 := hf.hn
  clear hW1 hf
  go_enter Tryz.func69, Tryz.ntmps69
  go_upto_region 2 with fail
  rw [← H1.out]
  have f0 := S.c0
  have f1 := S.c1
  have f2 := S.c2
  have f3 := S.c3
  have f4 := S.c4
  have f5 := S.c5
  have hown := O.own
  have hlo := O.lo
  clear H1
  have hlz : ∀ o : Obj, w.heap.size ≤ (W1.alloc o).heap.size := fun o => by simp; omega
  go_wp2_with (at_builtin; refine wpList_append_own _ rfl _ _ 40 rfl w.heap.size 5 i0 (.int .u8 0) 1 1 Tryz.underlying40 hi hz0 hz1 hz2 rfl (by decide) _ _ _ rfl (hown.alloc _) ⟨W1.heap.size, 0, none⟩ 1 1 [_] rfl rfl (cell_one_new _ (.int .u8 0) _) ?_ ?_ ?_ ?_ ?_)
  all_goals (try (first | rfl | (show 1 + 1 ≤ maxLen; unfold maxLen; omega) | (show (1 + 1) * 1 ≤ 140737488355328; omega) | exact hlz _ | (simp; omega) | (intro u hu; simp at hu; subst hu; rfl)))
  intro v3 w3 hown4 hgrow4 _
  have O3 := (O.alloc _).say (l' := [byteOf 1 0] ++ [0]) hown4 hgrow4 (by simp) (by rw [vals_append]; rfl)
  clear hown4 hgrow4 hown O
  have HO := Lib.hid O3
  clear O3
  go_wp2_with fail
  go_ret
  exact ⟨_, rfl, by unfold encP; simpa using HO.out⟩

set_option maxRecDepth 20000 in
set_option maxHeartbeats 6400000 in
theorem bytExact (w : World) (b : Bool) (n : Int) (t x : ByteArray) (p : Option Addr) (q : List Val) (cap : Nat) (hf : Fine n t x q.length) :
    Calls Tryz.prog 69 #[.agg #[.int .i64 3, .bool b, .int .i64 n, .string t, .string x, .slice p q.length cap]] w (RefPost w (.mk 3 b n t x q)) := by
  obtain ⟨i0, hi, hz0, hz1, hz2⟩ := info_parts info5
  have O := OwnB.first w 3 (.cells #[.int .i64 3, .bool b, .int .i64 n, .string t, .string x, .slice p q.length cap] 28) 3 rfl
  have S : Six ((w.alloc (.cells #[.int .i64 3, .bool b, .int .i64 n, .string t, .string x, .slice p q.length cap] 28)).alloc (.cells #[.int .u8 3] 5)) w.heap.size 3 b n t x p q.length cap := (six_new _ rfl).alloc _
  obtain ⟨W1, hW1⟩ : ∃ W1, W1 = (w.alloc (.cells #[.int .i64 3, .bool b, .int .i64 n, .string t, .string x, .slice p q.length cap] 28)).alloc (.cells #[.int .u8 3] 5) := ⟨_, rfl⟩
  rw [← hW1] at O S
  have H1 := Lib.hid hW1
  have HF := Lib.hid hf
  have hn1 := hf.hn
  clear hW1 hf
  go_enter Tryz.func69, Tryz.ntmps69
  go_upto_region 2 with fail
  rw [← H1.out]
  have f0 := S.c0
  have f1 := S.c1
  have f2 := S.c2
  have f3 := S.c3
  have f4 := S.c4
  have f5 := S.c5
  have hown := O.own
  have hlo := O.lo
  clear H1
  go_wp2_with (go_at_call 109; (with_reducible refine (refTextAt w _ _ _ t HF.out.ht O (by simp)).mono ?_); rintro e w3 ⟨v3, rfl, O3, hx3⟩)
  clear O hown
  have HO := Lib.hid O3
  clear O3
  go_wp2_with fail
  go_ret
  exact ⟨_, rfl, by unfold encP; simpa using HO.out⟩

set_option maxRecDepth 20000 in
set_option maxHeartbeats 6400000 in
theorem bytText (w : World) (b : Bool) (n : Int) (t x : ByteArray) (p : Option Addr) (q : List Val) (cap : Nat) (hf : Fine n t x q.length) :
    Calls Tryz.prog 69 #[.agg #[.int .i64 4, .bool b, .int .i64 n, .string t, .string x, .slice p q.length cap]] w (RefPost w (.mk 4 b n t x q)) := by
  obtain ⟨i0, hi, hz0, hz1, hz2⟩ := info_parts info5
  have O := OwnB.first w 4 (.cells #[.int .i64 4, .bool b, .int .i64 n, .string t, .string x, .slice p q.length cap] 28) 4 rfl
  have S : Six ((w.alloc (.cells #[.int .i64 4, .bool b, .int .i64 n, .string t, .string x, .slice p q.length cap] 28)).alloc (.cells #[.int .u8 4] 5)) w.heap.size 4 b n t x p q.length cap := (six_new _ rfl).alloc _
  obtain ⟨W1, hW1⟩ : ∃ W1, W1 = (w.alloc (.cells #[.int .i64 4, .bool b, .int .i64 n, .string t, .string x, .slice p q.length cap] 28)).alloc (.cells #[.int .u8 4] 5) := ⟨_, rfl⟩
  rw [← hW1] at O S
  have H1 := Lib.hid hW1
  have HF := Lib.hid hf
  have hn1 := hf.hn
  clear hW1 hf
  go_enter Tryz.func69, Tryz.ntmps69
  go_upto_region 2 with fail
  rw [← H1.out]
  have f0 := S.c0
  have f1 := S.c1
  have f2 := S.c2
  have f3 := S.c3
  have f4 := S.c4
  have f5 := S.c5
  have hown := O.own
  have hlo := O.lo
  clear H1
  go_wp2_with (go_at_call 109; (with_reducible refine (refTextAt w _ _ _ t HF.out.ht O (by simp)).mono ?_); rintro e w3 ⟨v3, rfl, O3, hx3⟩)
  clear O hown
  have HO := Lib.hid O3
  clear O3
  go_wp2_with fail
  go_ret
  exact ⟨_, rfl, by unfold encP; simpa using HO.out⟩

set_option maxRecDepth 20000 in
set_option maxHeartbeats 6400000 in
theorem bytIri (w : World) (b : Bool) (n : Int) (t x : ByteArray) (p : Option Addr) (q : List Val) (cap : Nat) (hf : Fine n t x q.length) :
    Calls Tryz.prog 69 #[.agg #[.int .i64 8, .bool b, .int .i64 n, .string t, .string x, .slice p q.length cap]] w (RefPost w (.mk 8 b n t x q)) := by
  obtain ⟨i0, hi, hz0, hz1, hz2⟩ := info_parts info5
  have O := OwnB.first w 8 (.cells #[.int .i64 8, .bool b, .int .i64 n, .string t, .string x, .slice p q.length cap] 28) 8 rfl
  have S : Six ((w.alloc (.cells #[.int .i64 8, .bool b, .int .i64 n, .string t, .string x, .slice p q.length cap] 28)).alloc (.cells #[.int .u8 8] 5)) w.heap.size 8 b n t x p q.length cap := (six_new _ rfl).alloc _
  obtain ⟨W1, hW1⟩ : ∃ W1, W1 = (w.alloc (.cells #[.int .i64 8, .bool b, .int .i64 n, .string t, .string x, .slice p q.length cap] 28)).alloc (.cells #[.int .u8 8] 5) := ⟨_, rfl⟩
  rw [← hW1] at O S
  have H1 := Lib.hid hW1
  have HF := Lib.hid hf
  have hn1 := hf.hn
  clear hW1 hf
  go_enter Tryz.func69, Tryz.ntmps69
  go_upto_region 2 with fail
  rw [← H1.out]
  have f0 := S.c0
  have f1 := S.c1
  have f2 := S.c2
  have f3 := S.c3
  have f4 := S.c4
  have f5 := S.c5
  have hown := O.own
  have hlo := O.lo
  clear H1
  go_wp2_with (go_at_call 109; (with_reducible refine (refTextAt w _ _ _ t HF.out.ht O (by simp)).mono ?_); rintro e w3 ⟨v3, rfl, O3, hx3⟩)
  clear O hown
  have HO := Lib.hid O3
  clear O3
  go_wp2_with fail
  go_ret
  exact ⟨_, rfl, by unfold encP; simpa using HO.out⟩

set_option maxRecDepth 20000 in
set_option maxHeartbeats 6400000 in
theorem bytBlank (w : World) (b : Bool) (n : Int) (t x : ByteArray) (p : Option Addr) (q : List Val) (cap : Nat) (hf : Fine n t x q.length) :
    Calls Tryz.prog 69 #[.agg #[.int .i64 9, .bool b, .int .i64 n, .string t, .string x, .slice p q.length cap]] w (RefPost w (.mk 9 b n t x q)) := by
  obtain ⟨i0, hi, hz0, hz1, hz2⟩ := info_parts info5
  have O := OwnB.first w 9 (.cells #[.int .i64 9, .bool b, .int .i64 n, .string t, .string x, .slice p q.length cap] 28) 9 rfl
  have S : Six ((w.alloc (.cells #[.int .i64 9, .bool b, .int .i64 n, .string t, .string x, .slice p q.length cap] 28)).alloc (.cells #[.int .u8 9] 5)) w.heap.size 9 b n t x p q.length cap := (six_new _ rfl).alloc _
  obtain ⟨W1, hW1⟩ : ∃ W1, W1 = (w.alloc (.cells #[.int .i64 9, .bool b, .int .i64 n, .string t, .string x, .slice p q.length cap] 28)).alloc (.cells #[.int .u8 9] 5) := ⟨_, rfl⟩
  rw [← hW1] at O S
  have H1 := Lib.hid hW1
  have HF := Lib.hid hf
  have hn1 := hf.hn
  clear hW1 hf
  go_enter Tryz.func69, Tryz.ntmps69
  go_upto_region 2 with fail
  rw [← H1.out]
  have f0 := S.c0
  have f1 := S.c1
  have f2 := S.c2
  have f3 := S.c3
  have f4 := S.c4
  have f5 := S.c5
  have hown := O.own
  have hlo := O.lo
  clear H1
  go_wp2_with (go_at_call 109; (with_reducible refine (refTextAt w _ _ _ t HF.out.ht O (by simp)).mono ?_); rintro e w3 ⟨v3, rfl, O3, hx3⟩)
  clear O hown
  have HO := Lib.hid O3
  clear O3
  go_wp2_with fail
  go_ret
  exact ⟨_, rfl, by unfold encP; simpa using HO.out⟩

set_option maxRecDepth 20000 in
set_option maxHeartbeats 6400000 in
theorem bytWhole (w : World) (b : Bool) (n : Int) (t x : ByteArray) (p : Option Addr) (q : List Val) (cap : Nat) (hf : Fine n t x q.length) :
    Calls Tryz.prog 69 #[.agg #[.int .i64 2, .bool b, .int .i64 n, .string t, .string x, .slice p q.length cap]] w (RefPost w (.mk 2 b n t x q)) := by
  obtain ⟨i0, hi, hz0, hz1, hz2⟩ := info_parts info5
  have O := OwnB.first w 2 (.cells #[.int .i64 2, .bool b, .int .i64 n, .string t, .string x, .slice p q.length cap] 28) 2 rfl
  have S : Six ((w.alloc (.cells #[.int .i64 2, .bool b, .int .i64 n, .string t, .string x, .slice p q.length cap] 28)).alloc (.cells #[.int .u8 2] 5)) w.heap.size 2 b n t x p q.length cap := (six_new _ rfl).alloc _
  obtain ⟨W1, hW1⟩ : ∃ W1, W1 = (w.alloc (.cells #[.int .i64 2, .bool b, .int .i64 n, .string t, .string x, .slice p q.length cap] 28)).alloc (.cells #[.int .u8 2] 5) := ⟨_, rfl⟩
  rw [← hW1] at O S
  have H1 := Lib.hid hW1
  have HF := Lib.hid hf
  have hn1 := hf.hn
  clear hW1 hf
  go_enter Tryz.func69, Tryz.ntmps69
  go_upto_region 2 with fail
  rw [← H1.out]
  have f0 := S.c0
  have f1 := S.c1
  have f2 := S.c2
  have f3 := S.c3
  have f4 := S.c4
  have f5 := S.c5
  have hown := O.own
  have hlo := O.lo
  clear H1
  go_wp2_with fail
  have HO := Lib.hid O
  have HS := Lib.hid S
  clear O S hown f0 f1 f2 f3 f4 f5
  go_loopg [3, 4] 8 (fun gg s3 s4 wr => ∃ L : List UInt8, s4 = .int .i64 (8 * (gg : Int) - 8) ∧ OwnB w s3 L wr ∧ gg ≤ 8 ∧ L.length + gg ≤ 9 ∧ Hid (L ++ beB n gg = [byteOf 2 0] ++ beB n 8) ∧ Hid (Six wr w.heap.size 2 b n t x p q.length cap))
  case atStart => exact ⟨[byteOf 2 0], rfl, HO.out, by omega, by simp, Lib.hid rfl, HS⟩
  case round =>
    obtain ⟨L, rfl, O, hg, hL, HE, HX⟩ := hrel
    clear HO HS
    cases gk with
    | zero =>
      have HE2 := HE.out
      have e0 : L = [byteOf 2 0] ++ beB n 8 := by simpa [beB] using HE2
      subst e0
      have HO := Lib.hid O
      clear O HE HE2
      go_wp2_with fail
      go_ret
      exact ⟨_, rfl, by unfold encP; simpa using HO.out⟩
    | succ i =>
      have hown := O.own
      have hlo := O.lo
      have f2 := HX.out.c2
      have e1 : 8 * ((i + 1 : Nat) : Int) - 8 = ((8 * i : Nat) : Int) := by omega
      rw [e1]
      have hi8 : 8 * i ≤ 56 := by omega
      obtain ⟨I, hI⟩ : ∃ I, I = 8 * i := ⟨_, rfl⟩
      rw [← hI] at hi8 ⊢
      have hlz : ∀ o : Obj, w.heap.size ≤ (wr.alloc o).heap.size := fun o => by simp; omega
      have hby : ((byteOf n i).toNat : Int) = n / 2 ^ I % 256 := by rw [hI]; exact byteOf_int n i
      have HI := Lib.hid hI
      clear hI
      go_wp2_with (at_builtin; refine wpList_append_own _ rfl _ _ 40 rfl w.heap.size 5 i0 (.int .u8 0) 1 1 Tryz.underlying40 hi hz0 hz1 hz2 rfl (by decide) _ _ _ rfl (hown.alloc _) ⟨wr.heap.size, 0, none⟩ 1 1 [_] rfl rfl (cell_one_new _ _ _) ?_ ?_ ?_ ?_ ?_)
      all_goals (try (first | rfl | (unfold maxLen; omega) | omega | exact hlz _ | (simp; omega) | (intro u hu; simp at hu; subst hu; rfl)))
      intro v' w1 hown' hgrow _
      have O2 := (O.alloc _).say (l' := L ++ [byteOf n i]) hown' hgrow (by simp) (by rw [vals_append, vals_one _ hby])
      have HX2 := Lib.hid (HX.out.bx ((Bx.below (below1 wr (.cells #[.int .u8 (n / 2 ^ I % 256)] 5))).trans ((O.alloc _).bx hgrow)))
      have HO := Lib.hid O2
      have HE2 : Hid ((L ++ [byteOf n i]) ++ beB n i = [byteOf 2 0] ++ beB n 8) := Lib.hid (by rw [← HE.out]; simp [beB])
      have hL2 : (L ++ [byteOf n i]).length + i ≤ 9 := by simp; omega
      clear hown hown' hgrow O O2 HE hL f2 HX
      go_wp2_with fail
      go_roundg i
      case measure => omega
      case rel => exact ⟨L ++ [byteOf n i], by have := HI.out; go_num, HO.out, by omega, hL2, HE2, HX2⟩

set_option maxRecDepth 20000 in
set_option maxHeartbeats 6400000 in
theorem bytNode (w : World) (b : Bool) (n : Int) (t x : ByteArray) (p : Option Addr) (q : List Val) (cap : Nat) (hf : Fine n t x q.length) :
    Calls Tryz.prog 69 #[.agg #[.int .i64 6, .bool b, .int .i64 n, .string t, .string x, .slice p q.length cap]] w (RefPost w (.mk 6 b n t x q)) := by
  obtain ⟨i0, hi, hz0, hz1, hz2⟩ := info_parts info5
  have O := OwnB.first w 6 (.cells #[.int .i64 6, .bool b, .int .i64 n, .string t, .string x, .slice p q.length cap] 28) 6 rfl
  have S : Six ((w.alloc (.cells #[.int .i64 6, .bool b, .int .i64 n, .string t, .string x, .slice p q.length cap] 28)).alloc (.cells #[.int .u8 6] 5)) w.heap.size 6 b n t x p q.length cap := (six_new _ rfl).alloc _
  obtain ⟨W1, hW1⟩ : ∃ W1, W1 = (w.alloc (.cells #[.int .i64 6, .bool b, .int .i64 n, .string t, .string x, .slice p q.length cap] 28)).alloc (.cells #[.int .u8 6] 5) := ⟨_, rfl⟩
  rw [← hW1] at O S
  have H1 := Lib.hid hW1
  have HF := Lib.hid hf
  have hn1 := hf.hn
  clear hW1 hf
  go_enter Tryz.func69, Tryz.ntmps69
  go_upto_region 2 with fail
  rw [← H1.out]
  have f0 := S.c0
  have f1 := S.c1
  have f2 := S.c2
  have f3 := S.c3
  have f4 := S.c4
  have f5 := S.c5
  have hown := O.own
  have hlo := O.lo
  clear H1
  go_wp2_with fail
  have HO := Lib.hid O
  have HS := Lib.hid S
  clear O S hown f0 f1 f2 f3 f4 f5
  go_loopg [3, 4] 8 (fun gg s3 s4 wr => ∃ L : List UInt8, s4 = .int .i64 (8 * (gg : Int) - 8) ∧ OwnB w s3 L wr ∧ gg ≤ 8 ∧ L.length + gg ≤ 9 ∧ Hid (L ++ beB n gg = [byteOf 6 0] ++ beB n 8) ∧ Hid (Six wr w.heap.size 6 b n t x p q.length cap))
  case atStart => exact ⟨[byteOf 6 0], rfl, HO.out, by omega, by simp, Lib.hid rfl, HS⟩
  case round =>
    obtain ⟨L, rfl, O, hg, hL, HE, HX⟩ := hrel
    clear HO HS
    cases gk with
    | zero =>
      have HE2 := HE.out
      have e0 : L = [byteOf 6 0] ++ beB n 8 := by simpa [beB] using HE2
      subst e0
      have HO := Lib.hid O
      clear O HE HE2
      go_wp2_with fail
      go_ret
      exact ⟨_, rfl, by unfold encP; simpa using HO.out⟩
    | succ i =>
      have hown := O.own
      have hlo := O.lo
      have f2 := HX.out.c2
      have e1 : 8 * ((i + 1 : Nat) : Int) - 8 = ((8 * i : Nat) : Int) := by omega
      rw [e1]
      have hi8 : 8 * i ≤ 56 := by omega
      obtain ⟨I, hI⟩ : ∃ I, I = 8 * i := ⟨_, rfl⟩
      rw [← hI] at hi8 ⊢
      have hlz : ∀ o : Obj, w.heap.size ≤ (wr.alloc o).heap.size := fun o => by simp; omega
      have hby : ((byteOf n i).toNat : Int) = n / 2 ^ I % 256 := by rw [hI]; exact byteOf_int n i
      have HI := Lib.hid hI
      clear hI
      go_wp2_with (at_builtin; refine wpList_append_own _ rfl _ _ 40 rfl w.heap.size 5 i0 (.int .u8 0) 1 1 Tryz.underlying40 hi hz0 hz1 hz2 rfl (by decide) _ _ _ rfl (hown.alloc _) ⟨wr.heap.size, 0, none⟩ 1 1 [_] rfl rfl (cell_one_new _ _ _) ?_ ?_ ?_ ?_ ?_)
      all_goals (try (first | rfl | (unfold maxLen; omega) | omega | exact hlz _ | (simp; omega) | (intro u hu; simp at hu; subst hu; rfl)))
      intro v' w1 hown' hgrow _
      have O2 := (O.alloc _).say (l' := L ++ [byteOf n i]) hown' hgrow (by simp) (by rw [vals_append, vals_one _ hby])
      have HX2 := Lib.hid (HX.out.bx ((Bx.below (below1 wr (.cells #[.int .u8 (n / 2 ^ I % 256)] 5))).trans ((O.alloc _).bx hgrow)))
      have HO := Lib.hid O2
      have HE2 : Hid ((L ++ [byteOf n i]) ++ beB n i = [byteOf 6 0] ++ beB n 8) := Lib.hid (by rw [← HE.out]; simp [beB])
      have hL2 : (L ++ [byteOf n i]).length + i ≤ 9 := by simp; omega
      clear hown hown' hgrow O O2 HE hL f2 HX
      go_wp2_with fail
      go_roundg i
      case measure => omega
      case rel => exact ⟨L ++ [byteOf n i], by have := HI.out; go_num, HO.out, by omega, hL2, HE2, HX2⟩

set_option maxRecDepth 20000 in
set_option maxHeartbeats 6400000 in
theorem bytEdge (w : World) (b : Bool) (n : Int) (t x : ByteArray) (p : Option Addr) (q : List Val) (cap : Nat) (hf : Fine n t x q.length) :
    Calls Tryz.prog 69 #[.agg #[.int .i64 7, .bool b, .int .i64 n, .string t, .string x, .slice p q.length cap]] w (RefPost w (.mk 7 b n t x q)) := by
  obtain ⟨i0, hi, hz0, hz1, hz2⟩ := info_parts info5
  have O := OwnB.first w 7 (.cells #[.int .i64 7, .bool b, .int .i64 n, .string t, .string x, .slice p q.length cap] 28) 7 rfl
  have S : Six ((w.alloc (.cells #[.int .i64 7, .bool b, .int .i64 n, .string t, .string x, .slice p q.length cap] 28)).alloc (.cells #[.int .u8 7] 5)) w.heap.size 7 b n t x p q.length cap := (six_new _ rfl).alloc _
  obtain ⟨W1, hW1⟩ : ∃ W1, W1 = (w.alloc (.cells #[.int .i64 7, .bool b, .int .i64 n, .string t, .string x, .slice p q.length cap] 28)).alloc (.cells #[.int .u8 7] 5) := ⟨_, rfl⟩
  rw [← hW1] at O S
  have H1 := Lib.hid hW1
  have HF := Lib.hid hf
  have hn1 := hf.hn
  clear hW1 hf
  go_enter Tryz.func69, Tryz.ntmps69
  go_upto_region 2 with fail
  rw [← H1.out]
  have f0 := S.c0
  have f1 := S.c1
  have f2 := S.c2
  have f3 := S.c3
  have f4 := S.c4
  have f5 := S.c5
  have hown := O.own
  have hlo := O.lo
  clear H1
  go_wp2_with fail
  have HO := Lib.hid O
  have HS := Lib.hid S
  clear O S hown f0 f1 f2 f3 f4 f5
  go_loopg [3, 4] 8 (fun gg s3 s4 wr => ∃ L : List UInt8, s4 = .int .i64 (8 * (gg : Int) - 8) ∧ OwnB w s3 L wr ∧ gg ≤ 8 ∧ L.length + gg ≤ 9 ∧ Hid (L ++ beB n gg = [byteOf 7 0] ++ beB n 8) ∧ Hid (Six wr w.heap.size 7 b n t x p q.length cap))
  case atStart => exact ⟨[byteOf 7 0], rfl, HO.out, by omega, by simp, Lib.hid rfl, HS⟩
  case round =>
    obtain ⟨L, rfl, O, hg, hL, HE, HX⟩ := hrel
    clear HO HS
    cases gk with
    | zero =>
      have HE2 := HE.out
      have e0 : L = [byteOf 7 0] ++ beB n 8 := by simpa [beB] using HE2
      subst e0
      have HO := Lib.hid O
      clear O HE HE2
      go_wp2_with fail
      go_ret
      exact ⟨_, rfl, by unfold encP; simpa using HO.out⟩
    | succ i =>
      have hown := O.own
      have hlo := O.lo
      have f2 := HX.out.c2
      have e1 : 8 * ((i + 1 : Nat) : Int) - 8 = ((8 * i : Nat) : Int) := by omega
      rw [e1]
      have hi8 : 8 * i ≤ 56 := by omega
      obtain ⟨I, hI⟩ : ∃ I, I = 8 * i := ⟨_, rfl⟩
      rw [← hI] at hi8 ⊢
      have hlz : ∀ o : Obj, w.heap.size ≤ (wr.alloc o).heap.size := fun o => by simp; omega
      have hby : ((byteOf n i).toNat : Int) = n / 2 ^ I % 256 := by rw [hI]; exact byteOf_int n i
      have HI := Lib.hid hI
      clear hI
      go_wp2_with (at_builtin; refine wpList_append_own _ rfl _ _ 40 rfl w.heap.size 5 i0 (.int .u8 0) 1 1 Tryz.underlying40 hi hz0 hz1 hz2 rfl (by decide) _ _ _ rfl (hown.alloc _) ⟨wr.heap.size, 0, none⟩ 1 1 [_] rfl rfl (cell_one_new _ _ _) ?_ ?_ ?_ ?_ ?_)
      all_goals (try (first | rfl | (unfold maxLen; omega) | omega | exact hlz _ | (simp; omega) | (intro u hu; simp at hu; subst hu; rfl)))
      intro v' w1 hown' hgrow _
      have O2 := (O.alloc _).say (l' := L ++ [byteOf n i]) hown' hgrow (by simp) (by rw [vals_append, vals_one _ hby])
      have HX2 := Lib.hid (HX.out.bx ((Bx.below (below1 wr (.cells #[.int .u8 (n / 2 ^ I % 256)] 5))).trans ((O.alloc _).bx hgrow)))
      have HO := Lib.hid O2
      have HE2 : Hid ((L ++ [byteOf n i]) ++ beB n i = [byteOf 7 0] ++ beB n 8) := Lib.hid (by rw [← HE.out]; simp [beB])
      have hL2 : (L ++ [byteOf n i]).length + i ≤ 9 := by simp; omega
      clear hown hown' hgrow O O2 HE hL f2 HX
      go_wp2_with fail
      go_roundg i
      case measure => omega
      case rel => exact ⟨L ++ [byteOf n i], by have := HI.out; go_num, HO.out, by omega, hL2, HE2, HX2⟩

set_option maxRecDepth 20000 in
set_option maxHeartbeats 6400000 in
theorem bytLit (w : World) (b : Bool) (n : Int) (t x : ByteArray) (p : Option Addr) (q : List Val) (cap : Nat) (hf : Fine n t x q.length) :
    Calls Tryz.prog 69 #[.agg #[.int .i64 10, .bool b, .int .i64 n, .string t, .string x, .slice p q.length cap]] w (RefPost w (.mk 10 b n t x q)) := by
  obtain ⟨i0, hi, hz0, hz1, hz2⟩ := info_parts info5
  have O := OwnB.first w 10 (.cells #[.int .i64 10, .bool b, .int .i64 n, .string t, .string x, .slice p q.length cap] 28) 10 rfl
  have S : Six ((w.alloc (.cells #[.int .i64 10, .bool b, .int .i64 n, .string t, .string x, .slice p q.length cap] 28)).alloc (.cells #[.int .u8 10] 5)) w.heap.size 10 b n t x p q.length cap := (six_new _ rfl).alloc _
  obtain ⟨W1, hW1⟩ : ∃ W1, W1 = (w.alloc (.cells #[.int .i64 10, .bool b, .int .i64 n, .string t, .string x, .slice p q.length cap] 28)).alloc (.cells #[.int .u8 10] 5) := ⟨_, rfl⟩
  rw [← hW1] at O S
  have H1 := Lib.hid hW1
  have HF := Lib.hid hf
  have hn1 := hf.hn
  clear hW1 hf
  go_enter Tryz.func69, Tryz.ntmps69
  go_upto_region 2 with fail
  rw [← H1.out]
  have f0 := S.c0
  have f1 := S.c1
  have f2 := S.c2
  have f3 := S.c3
  have f4 := S.c4
  have f5 := S.c5
  have hown := O.own
  have hlo := O.lo
  clear H1
  go_upto_region 20 with fail
  clear f0 f1 f2 f3 f4 f5 hown
  refine wp_region_held_drew (S := fun W => Six W w.heap.size 10 b n t x p q.length cap) (by kernel_rfl) S (fun hHeld => ?_)
  have O3 : OwnB w _ [byteOf 10 0] W1.drew := O.drew
  clear O S
  refine wpAnyH_take (i := 0) (v := (.slice (some ⟨w.heap.size + 1, 0, none⟩) 1 1)) rfl (by kernel_rfl) (by kernel_rfl) (by kernel_rfl) (fun _ _ _ h => h) (Or.inl ⟨by rfl, fun W _ => by go_simp⟩) hHeld ?_
  try simp only [Act.put, List.getElem_toArray, List.getElem_cons_succ, List.getElem_cons_zero, List.setIfInBounds_toArray, List.set_cons_zero, List.set_cons_succ]
  refine wpAnyH_take (i := 1) (v := (.pointer (some ⟨w.heap.size, 3, none⟩))) rfl (by kernel_rfl) (by kernel_rfl) (by kernel_rfl) (fun _ _ _ h => h) (Or.inl ⟨by rfl, fun W _ => by go_simp⟩) hHeld ?_
  try simp only [Act.put, List.getElem_toArray, List.getElem_cons_succ, List.getElem_cons_zero, List.setIfInBounds_toArray, List.set_cons_zero, List.set_cons_succ]
  refine wpAnyH_take (i := 4) (v := (.pointer (some ⟨w.heap.size, 4, none⟩))) rfl (by kernel_rfl) (by kernel_rfl) (by kernel_rfl) (fun _ _ _ h => h) (Or.inl ⟨by rfl, fun W _ => by go_simp⟩) hHeld ?_
  try simp only [Act.put, List.getElem_toArray, List.getElem_cons_succ, List.getElem_cons_zero, List.setIfInBounds_toArray, List.set_cons_zero, List.set_cons_succ]
  refine wpAnyH_take (i := 2) (v := (.string t)) rfl (by kernel_rfl) (by kernel_rfl) (by kernel_rfl) (fun _ _ _ h => h) (Or.inl ⟨by rfl, fun W h => by have c0 := h.c3; go_simp⟩) hHeld ?_
  try simp only [Act.put, List.getElem_toArray, List.getElem_cons_succ, List.getElem_cons_zero, List.setIfInBounds_toArray, List.set_cons_zero, List.set_cons_succ]
  refine wpAnyH_take (i := 5) (v := (.string x)) rfl (by kernel_rfl) (by kernel_rfl) (by kernel_rfl) (fun _ _ _ h => h) (Or.inl ⟨by rfl, fun W h => by have c0 := h.c4; go_simp⟩) hHeld ?_
  try simp only [Act.put, List.getElem_toArray, List.getElem_cons_succ, List.getElem_cons_zero, List.setIfInBounds_toArray, List.set_cons_zero, List.set_cons_succ]
  refine wpAnyH_ready (rs := [3]) (by kernel_rfl) (by simp) ?_
  refine AllReadyH.cons rfl (fun K hK => ?_) AllReadyH.nil
  rw [if_pos (by rfl)]
  go_simp
  refine (refTextAt w _ _ _ t HF.out.ht O3 (by simp)).mono ?_
  rintro e w3 ⟨v3, rfl, O4, hx3⟩
  have hb3 := hHeld.bx hx3
  refine hK.out _ _ hb3 (fun hHeld2 => ?_)
  clear hK K hHeld
  try simp only [Act.put, List.getElem_toArray, List.getElem_cons_succ, List.getElem_cons_zero, List.setIfInBounds_toArray, List.set_cons_zero, List.set_cons_succ]
  refine wpAnyH_ready (rs := [6]) (by kernel_rfl) (by simp) ?_
  refine AllReadyH.cons rfl (fun K hK => ?_) AllReadyH.nil
  rw [if_pos (by rfl)]
  go_simp
  refine (refTextAt w _ _ _ x HF.out.hx O4 (by have := HF.out.ht; simp only [List.length_append, List.length_cons, List.length_nil, lenB_length]; omega)).mono ?_
  rintro e w4 ⟨v4, rfl, O5, hx4⟩
  have hb4 := hb3.bx hx4
  refine hK.out _ _ hb4 (fun hHeld3 => ?_)
  clear hK K hHeld2
  try simp only [Act.put, List.getElem_toArray, List.getElem_cons_succ, List.getElem_cons_zero, List.setIfInBounds_toArray, List.set_cons_zero, List.set_cons_succ]
  refine wpAnyH_take (i := 7) (v := v4) rfl (by kernel_rfl) (by kernel_rfl) (by kernel_rfl) (fun _ _ _ h => h) (Or.inl ⟨by rfl, fun W _ => by go_simp⟩) hHeld3 ?_
  try simp only [Act.put, List.getElem_toArray, List.getElem_cons_succ, List.getElem_cons_zero, List.setIfInBounds_toArray, List.set_cons_zero, List.set_cons_succ]
  refine wpAnyH_done (by kernel_rfl) ?_ _
  have HO := Lib.hid O5
  clear O5 O4 O3
  go_wp2_with fail
  go_ret
  exact ⟨_, rfl, by unfold encP; simpa using HO.out⟩

end Go.Proofs.YtoifjjgakblhhaaGreatDoor

/- The document's own encoding: lists; all kinds. -/
namespace Go.Proofs.YtoifjjgakblhhaaGreatDoor
open Go.RowKit

theorem OwnB.form {w0 w : World} {A : Value} {l : List UInt8} (h : OwnB w0 A l w) (hn : l ≠ []) : ∃ g cap, A = .slice (some ⟨g, 0, none⟩) l.length cap ∧ ∀ j u, (vals l)[j]? = some u → w.cell? ((⟨g, 0, none⟩ : Addr).add j) = some u := by
  rcases h.own.2 with ⟨_, h0⟩ | ⟨g, cap, cur, e, _⟩
  · exact absurd (List.length_eq_zero_iff.1 h0) hn
  · refine ⟨g, cap, e, fun j u hj => ?_⟩
    have hj' := (List.getElem?_eq_some_iff.1 hj).1
    rw [vals_length] at hj'
    have hown := h.own
    rw [e] at hown
    rw [Addr.add_mid, Nat.zero_add, hown.cellAt j (by omega)]
    exact hj
theorem vals_cells (l : List UInt8) : ∀ u ∈ vals l, u.oneCell' = true := by
  intro u hu
  unfold vals at hu
  obtain ⟨c, _, rfl⟩ := List.mem_map.1 hu
  rfl
theorem encP_ne (v : Val) : encP v ≠ [] := by
  cases v with
  | mk k b n t x l => unfold encP; simp
/-- What the document's own Bytes tells of a value that lies somewhere. -/
def RefAt (v : Val) : Prop := ∀ (w : World) (k : Int) (b : Bool) (n : Int) (t x : ByteArray) (q : List Val) (p : Option Addr) (cap : Nat), v = .mk k b n t x q → Fine n t x q.length → Held w (.slice p q.length cap) q → 13 * wOne v ≤ 800000000 →
  Calls Tryz.prog 69 #[.agg #[.int .i64 k, .bool b, .int .i64 n, .string t, .string x, .slice p q.length cap]] w (RefPost w v)

set_option maxRecDepth 20000 in
set_option maxHeartbeats 6400000 in
theorem bytList (w : World) (b : Bool) (n : Int) (t x : ByteArray) (g off : Nat) (q : List Val) (cap : Nat) (hf : Fine n t x q.length) (hh : Holds w g off q) (hw : 13 * wAll q ≤ 799999987) (each : ∀ u ∈ q, RefAt u) :
    Calls Tryz.prog 69 #[.agg #[.int .i64 5, .bool b, .int .i64 n, .string t, .string x, .slice (some ⟨g, off, none⟩) q.length cap]] w (RefPost w (.mk 5 b n t x q)) := by
  obtain ⟨i0, hi, hz0, hz1, hz2⟩ := info_parts info5
  have O := OwnB.first w 5 (.cells #[.int .i64 5, .bool b, .int .i64 n, .string t, .string x, .slice (some ⟨g, off, none⟩) q.length cap] 28) 5 rfl
  have S : Six ((w.alloc (.cells #[.int .i64 5, .bool b, .int .i64 n, .string t, .string x, .slice (some ⟨g, off, none⟩) q.length cap] 28)).alloc (.cells #[.int .u8 5] 5)) w.heap.size 5 b n t x (some ⟨g, off, none⟩) q.length cap := (six_new _ rfl).alloc _
  obtain ⟨W1, hW1⟩ : ∃ W1, W1 = (w.alloc (.cells #[.int .i64 5, .bool b, .int .i64 n, .string t, .string x, .slice (some ⟨g, off, none⟩) q.length cap] 28)).alloc (.cells #[.int .u8 5] 5) := ⟨_, rfl⟩
  rw [← hW1] at O S
  have H1 := Lib.hid hW1
  have HF := Lib.hid hf
  have HH := Lib.hid hh
  have HWT := Lib.hid hw
  have HE := Lib.hid each
  have hn1 := hf.hn
  clear hW1 hf hh hw each
  go_enter Tryz.func69, Tryz.ntmps69
  go_upto_region 2 with fail
  rw [← H1.out]
  have f0 := S.c0
  have f1 := S.c1
  have f2 := S.c2
  have f3 := S.c3
  have f4 := S.c4
  have f5 := S.c5
  have hown := O.own
  have hlo := O.lo
  clear H1
  have hl4 : (vals (beB q.length 4)).length = 4 := by rw [vals_length, beB_length]
  have hone := vals_cells (beB q.length 4)
  obtain ⟨X, hX⟩ : ∃ X, X = vals (beB q.length 4) := ⟨_, rfl⟩
  rw [← hX] at hl4 hone
  have hc4 : ∀ W, Calls Tryz.prog 110 #[.int .i64 q.length] W fun e w' => e = .returned (.slice (some ⟨W.heap.size, 0, none⟩) 4 4) ∧ w' = W.alloc (.cells X.toArray 5) := fun W => by rw [hX]; exact fourAt q.length W
  have O0 : OwnB w _ [byteOf 5 0] (W1.alloc (.cells X.toArray 5)) := O.alloc _
  have hown0 := O0.own
  have S0 : Six (W1.alloc (.cells X.toArray 5)) w.heap.size 5 b n t x (some ⟨g, off, none⟩) q.length cap := S.alloc _
  have hnews : ∀ j u, X[j]? = some u → (W1.alloc (.cells X.toArray 5)).cell? ((⟨W1.heap.size, 0, none⟩ : Addr).add j) = some u := fun j u hj => by
    rw [Addr.add_mid, Nat.zero_add]
    exact cell_of (heap_new W1 _ rfl) j (by simpa using hj)
  have hlz : ∀ o : Obj, w.heap.size ≤ (W1.alloc o).heap.size := fun o => by simp; omega
  have HXX := Lib.hid hX
  clear hX O S hown
  go_wp2_with (first
    | (go_at_call 110; (with_reducible refine (hc4 _).mono ?_); rintro e w2 ⟨rfl, rfl⟩)
    | (at_builtin; refine wpList_append_own _ rfl _ _ 40 rfl w.heap.size 5 i0 (.int .u8 0) 1 1 Tryz.underlying40 hi hz0 hz1 hz2 rfl (by decide) _ _ _ rfl hown0 ⟨W1.heap.size, 0, none⟩ 4 4 X rfl hl4 hnews hone ?_ ?_ ?_ ?_))
  all_goals (try (first | rfl | (show 1 + 4 ≤ maxLen; unfold maxLen; omega) | (show (1 + 4) * 1 ≤ 140737488355328; omega) | exact hlz _))
  intro v3 w3 hown3 hgrow3 _
  have O3 := O0.say (l' := [byteOf 5 0] ++ beB q.length 4) hown3 hgrow3 (by rw [List.length_append, beB_length]; rfl) (by rw [HXX.out, vals_append])
  have HO := Lib.hid O3
  have HS := Lib.hid (S0.bx (O0.bx hgrow3))
  clear hown3 hgrow3 O3 S0 O0 hown0 hnews hone hl4 f0 f1 f2 f3 f4 f5
  go_wp2_with fail
  go_loopg [3, 5] q.length (fun gg s3 s5 wr => ∃ j : Nat, j + gg = q.length ∧ s5 = .int .i64 j ∧ OwnB w s3 ([byteOf 5 0] ++ beB q.length 4 ++ encAll (q.take j)) wr ∧ Hid (Six wr w.heap.size 5 b n t x (some ⟨g, off, none⟩) q.length cap))
  case atStart => exact ⟨0, by omega, rfl, by simpa [encAll] using HO.out, HS⟩
  case round =>
    obtain ⟨j, hjg, rfl, OR, HR⟩ := hrel
    clear HO HS
    have f5 := HR.out.c5
    by_cases hlt : (j : Int) < q.length
    · have hj1 : j < q.length := by omega
      obtain ⟨k', b', m', t', x', q', p', cp', o⟩ := (Holds.at_ q off HH.out j hj1).opens
      have o1 := o.below OR.bel
      have c0 := o1.c0
      have c1 := o1.c1
      have c2 := o1.c2
      have c3 := o1.c3
      have c4 := o1.c4
      have c5 := o1.c5
      have hwt : 13 * wOne q[j] ≤ 800000000 := by
        have h1 := wAll_take q j hj1
        have h3 := HWT.out
        omega
      have hc := HE.out q[j] (List.getElem_mem hj1) wr k' b' m' t' x' q' p' cp' o1.e o1.hf o1.hl hwt
      have hlen : ([byteOf 5 0] ++ beB q.length 4 ++ encAll (q.take j)).length + (encP q[j]).length ≤ 900000000 := by
        have h1 := wAll_take q j hj1
        have h2 := encAll_len (q.take j)
        have h3 := HWT.out
        have h4 := encP_len q[j]
        simp only [List.length_append, beB_length, List.length_cons, List.length_nil]
        omega
      have hne := encP_ne q[j]
      have he : encAll (q.take (j + 1)) = encAll (q.take j) ++ encP q[j] := encAll_take q j hj1
      obtain ⟨L, hL⟩ : ∃ L, L = [byteOf 5 0] ++ beB q.length 4 ++ encAll (q.take j) := ⟨_, rfl⟩
      obtain ⟨M, hM⟩ : ∃ M, M = encP q[j] := ⟨_, rfl⟩
      unfold RefPost at hc
      rw [← hM] at hc hlen hne he
      rw [← hL] at OR hlen
      have HL := Lib.hid hL
      have HEE := Lib.hid he
      have hone := vals_cells M
      have hl41 : (vals M).length = M.length * 1 := by rw [vals_length]; omega
      clear o o1 he hL hM hwt
      go_wp2_with (first
        | ((with_reducible refine wpList_loadMid6 (.tmp 76) g (off + j * 6) k' b' m' t' x' (.slice p' q'.length cp') c0 c1 c2 c3 c4 c5 ?_ ?_ ?_ ?_); rfl; rfl; rfl)
        | (go_at_call 69; (with_reducible refine hc.mono ?_); rintro e w4 ⟨A4, rfl, O4⟩; have O5 := OR.after O4.bel; have S5 : Six w4 w.heap.size 5 b n t x (some ⟨g, off, none⟩) q.length cap := HR.out.below O4.bel; obtain ⟨g4, cap4, rfl, hnews⟩ := O4.form hne; have hown5 := O5.own; have hlo5 := O5.lo; have HR5 := Lib.hid S5; clear O4 OR HR S5 f5)
        | (at_builtin; refine wpList_append_own _ rfl _ _ 40 rfl w.heap.size 5 i0 (.int .u8 0) 1 1 Tryz.underlying40 hi hz0 hz1 hz2 rfl (by decide) _ _ _ rfl hown5 ⟨g4, 0, none⟩ M.length cap4 (vals M) rfl hl41 hnews hone ?_ ?_ hlo5 ?_))
      all_goals (try (first | rfl | (unfold maxLen; omega) | omega))
      intro v6 w6 hown6 hgrow6 _
      have O6 := O5.say (l' := L ++ M) hown6 hgrow6 (by rw [List.length_append]) (by rw [vals_append])
      have HR6 := Lib.hid (HR5.out.bx (O5.bx hgrow6))
      have HO6 := Lib.hid O6
      clear hown6 hgrow6 O6 O5 hown5 HR5 hnews hone
      go_wp2_with fail
      go_roundg (gk - 1)
      case measure => omega
      case rel => exact ⟨j + 1, by omega, by go_num, by rw [HEE.out, ← List.append_assoc, ← HL.out]; exact HO6.out, HR6⟩
    · have e : q.take j = q := by rw [List.take_of_length_le]; omega
      rw [e] at OR
      have HO := Lib.hid OR
      clear OR HR
      go_wp2_with fail
      go_ret
      exact ⟨_, rfl, by unfold encP; simpa using HO.out⟩

set_option maxRecDepth 20000 in
set_option maxHeartbeats 6400000 in
theorem bytListNil (w : World) (b : Bool) (n : Int) (t x : ByteArray) (p : Option Addr) (cap : Nat) (hf : Fine n t x 0) :
    Calls Tryz.prog 69 #[.agg #[.int .i64 5, .bool b, .int .i64 n, .string t, .string x, .slice p 0 cap]] w (RefPost w (.mk 5 b n t x [])) := by
  obtain ⟨i0, hi, hz0, hz1, hz2⟩ := info_parts info5
  have O := OwnB.first w 5 (.cells #[.int .i64 5, .bool b, .int .i64 n, .string t, .string x, .slice p 0 cap] 28) 5 rfl
  have S : Six ((w.alloc (.cells #[.int .i64 5, .bool b, .int .i64 n, .string t, .string x, .slice p 0 cap] 28)).alloc (.cells #[.int .u8 5] 5)) w.heap.size 5 b n t x p 0 cap := (six_new _ rfl).alloc _
  obtain ⟨W1, hW1⟩ : ∃ W1, W1 = (w.alloc (.cells #[.int .i64 5, .bool b, .int .i64 n, .string t, .string x, .slice p 0 cap] 28)).alloc (.cells #[.int .u8 5] 5) := ⟨_, rfl⟩
  rw [← hW1] at O S
  have H1 := Lib.hid hW1
  have HF := Lib.hid hf
  have hn1 := hf.hn
  clear hW1 hf
  go_enter Tryz.func69, Tryz.ntmps69
  go_upto_region 2 with fail
  rw [← H1.out]
  have f0 := S.c0
  have f1 := S.c1
  have f2 := S.c2
  have f3 := S.c3
  have f4 := S.c4
  have f5 := S.c5
  have hown := O.own
  have hlo := O.lo
  clear H1
  have hl4 : (vals (beB 0 4)).length = 4 := by rw [vals_length, beB_length]
  have hone := vals_cells (beB 0 4)
  obtain ⟨X, hX⟩ : ∃ X, X = vals (beB 0 4) := ⟨_, rfl⟩
  rw [← hX] at hl4 hone
  have hc4 : ∀ W, Calls Tryz.prog 110 #[.int .i64 0] W fun e w' => e = .returned (.slice (some ⟨W.heap.size, 0, none⟩) 4 4) ∧ w' = W.alloc (.cells X.toArray 5) := fun W => by rw [hX]; exact fourAt 0 W
  have O0 : OwnB w _ [byteOf 5 0] (W1.alloc (.cells X.toArray 5)) := O.alloc _
  have hown0 := O0.own
  have S0 : Six (W1.alloc (.cells X.toArray 5)) w.heap.size 5 b n t x p 0 cap := S.alloc _
  have hnews : ∀ j u, X[j]? = some u → (W1.alloc (.cells X.toArray 5)).cell? ((⟨W1.heap.size, 0, none⟩ : Addr).add j) = some u := fun j u hj => by
    rw [Addr.add_mid, Nat.zero_add]
    exact cell_of (heap_new W1 _ rfl) j (by simpa using hj)
  have hlz : ∀ o : Obj, w.heap.size ≤ (W1.alloc o).heap.size := fun o => by simp; omega
  have HXX := Lib.hid hX
  clear hX O S hown
  go_wp2_with (first
    | (go_at_call 110; (with_reducible refine (hc4 _).mono ?_); rintro e w2 ⟨rfl, rfl⟩)
    | (at_builtin; refine wpList_append_own _ rfl _ _ 40 rfl w.heap.size 5 i0 (.int .u8 0) 1 1 Tryz.underlying40 hi hz0 hz1 hz2 rfl (by decide) _ _ _ rfl hown0 ⟨W1.heap.size, 0, none⟩ 4 4 X rfl hl4 hnews hone ?_ ?_ ?_ ?_))
  all_goals (try (first | rfl | (show 1 + 4 ≤ maxLen; unfold maxLen; omega) | (show (1 + 4) * 1 ≤ 140737488355328; omega) | exact hlz _))
  intro v3 w3 hown3 hgrow3 _
  have O3 := O0.say (l' := [byteOf 5 0] ++ beB 0 4) hown3 hgrow3 (by rw [List.length_append, beB_length]; rfl) (by rw [HXX.out, vals_append])
  have HO := Lib.hid O3
  have HS := Lib.hid (S0.bx (O0.bx hgrow3))
  clear hown3 hgrow3 O3 S0 O0 hown0 hnews hone hl4 f0 f1 f2 f3 f4 f5
  go_wp2_with fail
  go_loopg [3, 5] 0 (fun gg s3 s5 wr => gg = 0 ∧ s5 = .int .i64 0 ∧ OwnB w s3 ([byteOf 5 0] ++ beB 0 4) wr ∧ Hid (Six wr w.heap.size 5 b n t x p 0 cap))
  case atStart => exact ⟨rfl, rfl, by simpa using HO.out, HS⟩
  case round =>
    obtain ⟨_, rfl, OR, HR⟩ := hrel
    clear HO HS
    have f5 := HR.out.c5
    have HO := Lib.hid OR
    clear OR HR
    go_wp2_with fail
    go_ret
    exact ⟨_, rfl, by unfold encP; simpa [encAll] using HO.out⟩

theorem bytStep (v : Val) (k : Int) (b : Bool) (n : Int) (t x : ByteArray) (q : List Val) (ev : v = .mk k b n t x q) (each : ∀ u ∈ q, RefAt u) : RefAt v := by
  subst ev
  intro w k1 b1 n1 t1 x1 q1 p cap e hf hl hw
  cases e
  have hw' := hw
  unfold wOne at hw'
  by_cases h0 : k = 0
  · subst h0; exact bytNull w b n t x p q cap hf
  by_cases h1 : k = 1
  · subst h1
    cases b with
    | true => exact bytBoolTrue w n t x p q cap hf
    | false => exact bytBoolFalse w n t x p q cap hf
  by_cases h2 : k = 2
  · subst h2; exact bytWhole w b n t x p q cap hf
  by_cases h3 : k = 3
  · subst h3; exact bytExact w b n t x p q cap hf
  by_cases h4 : k = 4
  · subst h4; exact bytText w b n t x p q cap hf
  by_cases h5 : k = 5
  · subst h5
    cases q with
    | nil => exact bytListNil w b n t x p cap hf
    | cons v r =>
      obtain ⟨g, off, rfl, hh⟩ := hl.form
      exact bytList w b n t x g off (v :: r) cap hf hh (by omega) each
  by_cases h6 : k = 6
  · subst h6; exact bytNode w b n t x p q cap hf
  by_cases h7 : k = 7
  · subst h7; exact bytEdge w b n t x p q cap hf
  by_cases h8 : k = 8
  · subst h8; exact bytIri w b n t x p q cap hf
  by_cases h9 : k = 9
  · subst h9; exact bytBlank w b n t x p q cap hf
  by_cases h10 : k = 10
  · subst h10; exact bytLit w b n t x p q cap hf
  exact bytStranger w k b n t x p q cap hf (by simp [kindT, h0, h1, h2, h3, h4, h5, h6, h7, h8, h9, h10])
mutual
theorem bytVal : (v : Val) → RefAt v
  | .mk k b n t x q => bytStep _ k b n t x q rfl (bytEach q)
theorem bytEach : (q : List Val) → ∀ u ∈ q, RefAt u
  | [], _, h => absurd h (by simp)
  | v :: r, u, h => by
    rcases List.mem_cons.1 h with h | h
    · rw [h]; exact bytVal v
    · exact bytEach r u h
end
end Go.Proofs.YtoifjjgakblhhaaGreatDoor
