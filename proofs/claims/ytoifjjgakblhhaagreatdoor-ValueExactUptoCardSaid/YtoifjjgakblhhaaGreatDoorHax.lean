/- Texts of one kind, one behind the other: each says ahead of itself what it shows. -/
import Derived.Test.YtoifjjgakblhhaaGreatDoorHar
import Derived.Deep.LoopGhost
import Derived.Test.YtoifjjgakblhhaaGreatDoorHao
import Derived.Laws.AppendOwnNone
/- The document's own text of a value. -/
namespace Go.Proofs.YtoifjjgakblhhaaGreatDoor
open Go.RowKit

set_option maxRecDepth 20000 in
set_option maxHeartbeats 3200000 in
theorem rtNo (k : Int) (b : Bool) (n : Int) (t x : ByteArray) (p : Option Addr) (q : List Val) (cap : Nat) (w : World) (X : ByteArray) (hf : Fine n t x q.length) (hl : Held w (.slice p q.length cap) q) (hm : mayP (.mk k b n t x q) 0 = false) (hX : X = ⟨#[]⟩) :
    Calls Tryz.prog 16 #[.agg #[.int .i64 k, .bool b, .int .i64 n, .string t, .string x, .slice p q.length cap]] w fun e w' => e = .returned (.string X) ∧ Below w.heap.size w w' := by
  obtain ⟨W0, hW0⟩ : ∃ W0, W0 = w.alloc (.cells #[.int .i64 k, .bool b, .int .i64 n, .string t, .string x, .slice p q.length cap] 28) := ⟨_, rfl⟩
  have S : Six W0 w.heap.size k b n t x p q.length cap := by rw [hW0]; exact six_new _ rfl
  have b0 : Below w.heap.size w W0 := by rw [hW0]; exact below1 _ _
  have hc := fun W (h : Below w.heap.size w W) => refMay k b n t x q p cap W hf (Held.below q hl h)
  rw [hm] at hc
  have H0 := Lib.hid hW0
  have htz := hf.ht
  subst hX
  clear hW0 hl hf
  go_enter Tryz.func16, Tryz.ntmps16
  go_wp2_with (first
    | ((try rw [← H0.out]); (with_reducible refine wpList_load6 (.tmp 1) w.heap.size S ?_ ?_ ?_ ?_); rfl; rfl; rfl)
    | (go_at_call 14; (with_reducible refine (hc _ b0).mono ?_); rintro e w' ⟨rfl, hb⟩; replace S := S.below hb; replace b0 := below_any b0 hb b0.size; have f0 := S.c0; have f1 := S.c1; have f2 := S.c2; have f3 := S.c3; have f5 := S.c5; clear hb))
  go_ret
  exact ⟨rfl, b0⟩

set_option maxRecDepth 20000 in
set_option maxHeartbeats 3200000 in
theorem rtNull (b : Bool) (n : Int) (t x : ByteArray) (p : Option Addr) (q : List Val) (cap : Nat) (w : World) (X : ByteArray) (hf : Fine n t x q.length) (hl : Held w (.slice p q.length cap) q) (hm : mayP (.mk 0 b n t x q) 0 = true) (hX : X = bs nullB) :
    Calls Tryz.prog 16 #[.agg #[.int .i64 0, .bool b, .int .i64 n, .string t, .string x, .slice p q.length cap]] w fun e w' => e = .returned (.string X) ∧ Below w.heap.size w w' := by
  obtain ⟨W0, hW0⟩ : ∃ W0, W0 = w.alloc (.cells #[.int .i64 0, .bool b, .int .i64 n, .string t, .string x, .slice p q.length cap] 28) := ⟨_, rfl⟩
  have S : Six W0 w.heap.size 0 b n t x p q.length cap := by rw [hW0]; exact six_new _ rfl
  have b0 : Below w.heap.size w W0 := by rw [hW0]; exact below1 _ _
  have hc := fun W (h : Below w.heap.size w W) => refMay 0 b n t x q p cap W hf (Held.below q hl h)
  rw [hm] at hc
  have H0 := Lib.hid hW0
  have htz := hf.ht
  have hX2 : X = ⟨#[110, 117, 108, 108]⟩ := hX
  subst hX2
  clear hX
  clear hW0 hl hf
  go_enter Tryz.func16, Tryz.ntmps16
  go_wp2_with (first
    | ((try rw [← H0.out]); (with_reducible refine wpList_load6 (.tmp 1) w.heap.size S ?_ ?_ ?_ ?_); rfl; rfl; rfl)
    | (go_at_call 14; (with_reducible refine (hc _ b0).mono ?_); rintro e w' ⟨rfl, hb⟩; replace S := S.below hb; replace b0 := below_any b0 hb b0.size; have f0 := S.c0; have f1 := S.c1; have f2 := S.c2; have f3 := S.c3; have f5 := S.c5; clear hb))
  go_ret
  exact ⟨rfl, b0⟩

set_option maxRecDepth 20000 in
set_option maxHeartbeats 3200000 in
theorem rtBoolTrue (n : Int) (t x : ByteArray) (p : Option Addr) (q : List Val) (cap : Nat) (w : World) (X : ByteArray) (hf : Fine n t x q.length) (hl : Held w (.slice p q.length cap) q) (hm : mayP (.mk 1 true n t x q) 0 = true) (hX : X = bs (boolB true)) :
    Calls Tryz.prog 16 #[.agg #[.int .i64 1, .bool true, .int .i64 n, .string t, .string x, .slice p q.length cap]] w fun e w' => e = .returned (.string X) ∧ Below w.heap.size w w' := by
  obtain ⟨W0, hW0⟩ : ∃ W0, W0 = w.alloc (.cells #[.int .i64 1, .bool true, .int .i64 n, .string t, .string x, .slice p q.length cap] 28) := ⟨_, rfl⟩
  have S : Six W0 w.heap.size 1 true n t x p q.length cap := by rw [hW0]; exact six_new _ rfl
  have b0 : Below w.heap.size w W0 := by rw [hW0]; exact below1 _ _
  have hc := fun W (h : Below w.heap.size w W) => refMay 1 true n t x q p cap W hf (Held.below q hl h)
  rw [hm] at hc
  have H0 := Lib.hid hW0
  have htz := hf.ht
  have hX2 : X = ⟨#[116, 114, 117, 101]⟩ := hX
  subst hX2
  clear hX
  clear hW0 hl hf
  go_enter Tryz.func16, Tryz.ntmps16
  go_wp2_with (first
    | ((try rw [← H0.out]); (with_reducible refine wpList_load6 (.tmp 1) w.heap.size S ?_ ?_ ?_ ?_); rfl; rfl; rfl)
    | (go_at_call 14; (with_reducible refine (hc _ b0).mono ?_); rintro e w' ⟨rfl, hb⟩; replace S := S.below hb; replace b0 := below_any b0 hb b0.size; have f0 := S.c0; have f1 := S.c1; have f2 := S.c2; have f3 := S.c3; have f5 := S.c5; clear hb))
  go_ret
  exact ⟨rfl, b0⟩

set_option maxRecDepth 20000 in
set_option maxHeartbeats 3200000 in
theorem rtBoolFalse (n : Int) (t x : ByteArray) (p : Option Addr) (q : List Val) (cap : Nat) (w : World) (X : ByteArray) (hf : Fine n t x q.length) (hl : Held w (.slice p q.length cap) q) (hm : mayP (.mk 1 false n t x q) 0 = true) (hX : X = bs (boolB false)) :
    Calls Tryz.prog 16 #[.agg #[.int .i64 1, .bool false, .int .i64 n, .string t, .string x, .slice p q.length cap]] w fun e w' => e = .returned (.string X) ∧ Below w.heap.size w w' := by
  obtain ⟨W0, hW0⟩ : ∃ W0, W0 = w.alloc (.cells #[.int .i64 1, .bool false, .int .i64 n, .string t, .string x, .slice p q.length cap] 28) := ⟨_, rfl⟩
  have S : Six W0 w.heap.size 1 false n t x p q.length cap := by rw [hW0]; exact six_new _ rfl
  have b0 : Below w.heap.size w W0 := by rw [hW0]; exact below1 _ _
  have hc := fun W (h : Below w.heap.size w W) => refMay 1 false n t x q p cap W hf (Held.below q hl h)
  rw [hm] at hc
  have H0 := Lib.hid hW0
  have htz := hf.ht
  have hX2 : X = ⟨#[102, 97, 108, 115, 101]⟩ := hX
  subst hX2
  clear hX
  clear hW0 hl hf
  go_enter Tryz.func16, Tryz.ntmps16
  go_wp2_with (first
    | ((try rw [← H0.out]); (with_reducible refine wpList_load6 (.tmp 1) w.heap.size S ?_ ?_ ?_ ?_); rfl; rfl; rfl)
    | (go_at_call 14; (with_reducible refine (hc _ b0).mono ?_); rintro e w' ⟨rfl, hb⟩; replace S := S.below hb; replace b0 := below_any b0 hb b0.size; have f0 := S.c0; have f1 := S.c1; have f2 := S.c2; have f3 := S.c3; have f5 := S.c5; clear hb))
  go_ret
  exact ⟨rfl, b0⟩

set_option maxRecDepth 20000 in
set_option maxHeartbeats 3200000 in
theorem rtExact (b : Bool) (n : Int) (t x : ByteArray) (p : Option Addr) (q : List Val) (cap : Nat) (w : World) (X : ByteArray) (hf : Fine n t x q.length) (hl : Held w (.slice p q.length cap) q) (hm : mayP (.mk 3 b n t x q) 0 = true) (hX : X = t) :
    Calls Tryz.prog 16 #[.agg #[.int .i64 3, .bool b, .int .i64 n, .string t, .string x, .slice p q.length cap]] w fun e w' => e = .returned (.string X) ∧ Below w.heap.size w w' := by
  obtain ⟨W0, hW0⟩ : ∃ W0, W0 = w.alloc (.cells #[.int .i64 3, .bool b, .int .i64 n, .string t, .string x, .slice p q.length cap] 28) := ⟨_, rfl⟩
  have S : Six W0 w.heap.size 3 b n t x p q.length cap := by rw [hW0]; exact six_new _ rfl
  have b0 : Below w.heap.size w W0 := by rw [hW0]; exact below1 _ _
  have hc := fun W (h : Below w.heap.size w W) => refMay 3 b n t x q p cap W hf (Held.below q hl h)
  rw [hm] at hc
  have H0 := Lib.hid hW0
  have htz := hf.ht
  subst hX
  clear hW0 hl hf
  go_enter Tryz.func16, Tryz.ntmps16
  go_wp2_with (first
    | ((try rw [← H0.out]); (with_reducible refine wpList_load6 (.tmp 1) w.heap.size S ?_ ?_ ?_ ?_); rfl; rfl; rfl)
    | (go_at_call 14; (with_reducible refine (hc _ b0).mono ?_); rintro e w' ⟨rfl, hb⟩; replace S := S.below hb; replace b0 := below_any b0 hb b0.size; have f0 := S.c0; have f1 := S.c1; have f2 := S.c2; have f3 := S.c3; have f5 := S.c5; clear hb))
  go_ret
  exact ⟨rfl, b0⟩

set_option maxRecDepth 20000 in
set_option maxHeartbeats 3200000 in
theorem rtText (b : Bool) (n : Int) (t x : ByteArray) (p : Option Addr) (q : List Val) (cap : Nat) (w : World) (X : ByteArray) (hf : Fine n t x q.length) (hl : Held w (.slice p q.length cap) q) (hm : mayP (.mk 4 b n t x q) 0 = true) (hX : X = t) :
    Calls Tryz.prog 16 #[.agg #[.int .i64 4, .bool b, .int .i64 n, .string t, .string x, .slice p q.length cap]] w fun e w' => e = .returned (.string X) ∧ Below w.heap.size w w' := by
  obtain ⟨W0, hW0⟩ : ∃ W0, W0 = w.alloc (.cells #[.int .i64 4, .bool b, .int .i64 n, .string t, .string x, .slice p q.length cap] 28) := ⟨_, rfl⟩
  have S : Six W0 w.heap.size 4 b n t x p q.length cap := by rw [hW0]; exact six_new _ rfl
  have b0 : Below w.heap.size w W0 := by rw [hW0]; exact below1 _ _
  have hc := fun W (h : Below w.heap.size w W) => refMay 4 b n t x q p cap W hf (Held.below q hl h)
  rw [hm] at hc
  have H0 := Lib.hid hW0
  have htz := hf.ht
  subst hX
  clear hW0 hl hf
  go_enter Tryz.func16, Tryz.ntmps16
  go_wp2_with (first
    | ((try rw [← H0.out]); (with_reducible refine wpList_load6 (.tmp 1) w.heap.size S ?_ ?_ ?_ ?_); rfl; rfl; rfl)
    | (go_at_call 14; (with_reducible refine (hc _ b0).mono ?_); rintro e w' ⟨rfl, hb⟩; replace S := S.below hb; replace b0 := below_any b0 hb b0.size; have f0 := S.c0; have f1 := S.c1; have f2 := S.c2; have f3 := S.c3; have f5 := S.c5; clear hb))
  go_ret
  exact ⟨rfl, b0⟩

set_option maxRecDepth 20000 in
set_option maxHeartbeats 3200000 in
theorem rtLit (b : Bool) (n : Int) (t x : ByteArray) (p : Option Addr) (q : List Val) (cap : Nat) (w : World) (X : ByteArray) (hf : Fine n t x q.length) (hl : Held w (.slice p q.length cap) q) (hm : mayP (.mk 10 b n t x q) 0 = true) (hX : X = t) :
    Calls Tryz.prog 16 #[.agg #[.int .i64 10, .bool b, .int .i64 n, .string t, .string x, .slice p q.length cap]] w fun e w' => e = .returned (.string X) ∧ Below w.heap.size w w' := by
  obtain ⟨W0, hW0⟩ : ∃ W0, W0 = w.alloc (.cells #[.int .i64 10, .bool b, .int .i64 n, .string t, .string x, .slice p q.length cap] 28) := ⟨_, rfl⟩
  have S : Six W0 w.heap.size 10 b n t x p q.length cap := by rw [hW0]; exact six_new _ rfl
  have b0 : Below w.heap.size w W0 := by rw [hW0]; exact below1 _ _
  have hc := fun W (h : Below w.heap.size w W) => refMay 10 b n t x q p cap W hf (Held.below q hl h)
  rw [hm] at hc
  have H0 := Lib.hid hW0
  have htz := hf.ht
  subst hX
  clear hW0 hl hf
  go_enter Tryz.func16, Tryz.ntmps16
  go_wp2_with (first
    | ((try rw [← H0.out]); (with_reducible refine wpList_load6 (.tmp 1) w.heap.size S ?_ ?_ ?_ ?_); rfl; rfl; rfl)
    | (go_at_call 14; (with_reducible refine (hc _ b0).mono ?_); rintro e w' ⟨rfl, hb⟩; replace S := S.below hb; replace b0 := below_any b0 hb b0.size; have f0 := S.c0; have f1 := S.c1; have f2 := S.c2; have f3 := S.c3; have f5 := S.c5; clear hb))
  go_ret
  exact ⟨rfl, b0⟩

set_option maxRecDepth 20000 in
set_option maxHeartbeats 3200000 in
theorem rtIri (b : Bool) (n : Int) (t x : ByteArray) (p : Option Addr) (q : List Val) (cap : Nat) (w : World) (X : ByteArray) (hf : Fine n t x q.length) (hl : Held w (.slice p q.length cap) q) (hm : mayP (.mk 8 b n t x q) 0 = true) (hX : X = ⟨#[60]⟩ ++ t ++ ⟨#[62]⟩) :
    Calls Tryz.prog 16 #[.agg #[.int .i64 8, .bool b, .int .i64 n, .string t, .string x, .slice p q.length cap]] w fun e w' => e = .returned (.string X) ∧ Below w.heap.size w w' := by
  obtain ⟨W0, hW0⟩ : ∃ W0, W0 = w.alloc (.cells #[.int .i64 8, .bool b, .int .i64 n, .string t, .string x, .slice p q.length cap] 28) := ⟨_, rfl⟩
  have S : Six W0 w.heap.size 8 b n t x p q.length cap := by rw [hW0]; exact six_new _ rfl
  have b0 : Below w.heap.size w W0 := by rw [hW0]; exact below1 _ _
  have hc := fun W (h : Below w.heap.size w W) => refMay 8 b n t x q p cap W hf (Held.below q hl h)
  rw [hm] at hc
  have H0 := Lib.hid hW0
  have htz := hf.ht
  have HX := Lib.hid hX
  clear hX
  have z1 : (⟨#[60]⟩ ++ t : ByteArray).size ≤ 2097153 := by rw [ByteArray.size_append]; show 1 + _ ≤ _; omega
  clear hW0 hl hf
  go_enter Tryz.func16, Tryz.ntmps16
  go_wp2_with (first
    | ((try rw [← H0.out]); (with_reducible refine wpList_load6 (.tmp 1) w.heap.size S ?_ ?_ ?_ ?_); rfl; rfl; rfl)
    | (go_at_call 14; (with_reducible refine (hc _ b0).mono ?_); rintro e w' ⟨rfl, hb⟩; replace S := S.below hb; replace b0 := below_any b0 hb b0.size; have f0 := S.c0; have f1 := S.c1; have f2 := S.c2; have f3 := S.c3; have f5 := S.c5; clear hb))
  go_ret
  exact ⟨by rw [HX.out]; rfl, b0⟩

set_option maxRecDepth 20000 in
set_option maxHeartbeats 3200000 in
theorem rtBlank (b : Bool) (n : Int) (t x : ByteArray) (p : Option Addr) (q : List Val) (cap : Nat) (w : World) (X : ByteArray) (hf : Fine n t x q.length) (hl : Held w (.slice p q.length cap) q) (hm : mayP (.mk 9 b n t x q) 0 = true) (hX : X = ⟨#[95, 58]⟩ ++ t) :
    Calls Tryz.prog 16 #[.agg #[.int .i64 9, .bool b, .int .i64 n, .string t, .string x, .slice p q.length cap]] w fun e w' => e = .returned (.string X) ∧ Below w.heap.size w w' := by
  obtain ⟨W0, hW0⟩ : ∃ W0, W0 = w.alloc (.cells #[.int .i64 9, .bool b, .int .i64 n, .string t, .string x, .slice p q.length cap] 28) := ⟨_, rfl⟩
  have S : Six W0 w.heap.size 9 b n t x p q.length cap := by rw [hW0]; exact six_new _ rfl
  have b0 : Below w.heap.size w W0 := by rw [hW0]; exact below1 _ _
  have hc := fun W (h : Below w.heap.size w W) => refMay 9 b n t x q p cap W hf (Held.below q hl h)
  rw [hm] at hc
  have H0 := Lib.hid hW0
  have htz := hf.ht
  have HX := Lib.hid hX
  clear hX
  clear hW0 hl hf
  go_enter Tryz.func16, Tryz.ntmps16
  go_wp2_with (first
    | ((try rw [← H0.out]); (with_reducible refine wpList_load6 (.tmp 1) w.heap.size S ?_ ?_ ?_ ?_); rfl; rfl; rfl)
    | (go_at_call 14; (with_reducible refine (hc _ b0).mono ?_); rintro e w' ⟨rfl, hb⟩; replace S := S.below hb; replace b0 := below_any b0 hb b0.size; have f0 := S.c0; have f1 := S.c1; have f2 := S.c2; have f3 := S.c3; have f5 := S.c5; clear hb))
  go_ret
  exact ⟨by rw [HX.out]; rfl, b0⟩

set_option maxRecDepth 20000 in
set_option maxHeartbeats 3200000 in
theorem rtNode (b : Bool) (n : Int) (t x : ByteArray) (p : Option Addr) (q : List Val) (cap : Nat) (w : World) (X : ByteArray) (hf : Fine n t x q.length) (hl : Held w (.slice p q.length cap) q) (hm : mayP (.mk 6 b n t x q) 0 = true) (F : ByteArray) (hF : F.size ≤ 21) (hN : ∀ W, Calls Tryz.prog 42 #[.int .i64 n] W fun e w' => e = .returned (.string F) ∧ Below W.heap.size W w') (hX : X = ⟨#[40]⟩ ++ F ++ ⟨#[41]⟩) :
    Calls Tryz.prog 16 #[.agg #[.int .i64 6, .bool b, .int .i64 n, .string t, .string x, .slice p q.length cap]] w fun e w' => e = .returned (.string X) ∧ Below w.heap.size w w' := by
  obtain ⟨W0, hW0⟩ : ∃ W0, W0 = w.alloc (.cells #[.int .i64 6, .bool b, .int .i64 n, .string t, .string x, .slice p q.length cap] 28) := ⟨_, rfl⟩
  have S : Six W0 w.heap.size 6 b n t x p q.length cap := by rw [hW0]; exact six_new _ rfl
  have b0 : Below w.heap.size w W0 := by rw [hW0]; exact below1 _ _
  have hc := fun W (h : Below w.heap.size w W) => refMay 6 b n t x q p cap W hf (Held.below q hl h)
  rw [hm] at hc
  have H0 := Lib.hid hW0
  have htz := hf.ht
  have HX := Lib.hid hX
  clear hX
  have z1 : (⟨#[40]⟩ ++ F : ByteArray).size ≤ 22 := by rw [ByteArray.size_append]; show 1 + _ ≤ _; omega
  clear hW0 hl hf
  go_enter Tryz.func16, Tryz.ntmps16
  go_wp2_with (first
    | ((try rw [← H0.out]); (with_reducible refine wpList_load6 (.tmp 1) w.heap.size S ?_ ?_ ?_ ?_); rfl; rfl; rfl)
    | (go_at_call 14; (with_reducible refine (hc _ b0).mono ?_); rintro e w' ⟨rfl, hb⟩; replace S := S.below hb; replace b0 := below_any b0 hb b0.size; have f0 := S.c0; have f1 := S.c1; have f2 := S.c2; have f3 := S.c3; have f5 := S.c5; clear hb)
    | (go_at_call 42; (with_reducible refine (hN _).mono ?_); rintro e w' ⟨rfl, hb⟩; replace b0 := below_any b0 hb b0.size; clear hb))
  go_ret
  exact ⟨by rw [HX.out]; rfl, b0⟩

set_option maxRecDepth 20000 in
set_option maxHeartbeats 3200000 in
theorem rtEdge (b : Bool) (n : Int) (t x : ByteArray) (p : Option Addr) (q : List Val) (cap : Nat) (w : World) (X : ByteArray) (hf : Fine n t x q.length) (hl : Held w (.slice p q.length cap) q) (hm : mayP (.mk 7 b n t x q) 0 = true) (F : ByteArray) (hF : F.size ≤ 21) (hN : ∀ W, Calls Tryz.prog 42 #[.int .i64 n] W fun e w' => e = .returned (.string F) ∧ Below W.heap.size W w') (hX : X = ⟨#[91]⟩ ++ F ++ ⟨#[93]⟩) :
    Calls Tryz.prog 16 #[.agg #[.int .i64 7, .bool b, .int .i64 n, .string t, .string x, .slice p q.length cap]] w fun e w' => e = .returned (.string X) ∧ Below w.heap.size w w' := by
  obtain ⟨W0, hW0⟩ : ∃ W0, W0 = w.alloc (.cells #[.int .i64 7, .bool b, .int .i64 n, .string t, .string x, .slice p q.length cap] 28) := ⟨_, rfl⟩
  have S : Six W0 w.heap.size 7 b n t x p q.length cap := by rw [hW0]; exact six_new _ rfl
  have b0 : Below w.heap.size w W0 := by rw [hW0]; exact below1 _ _
  have hc := fun W (h : Below w.heap.size w W) => refMay 7 b n t x q p cap W hf (Held.below q hl h)
  rw [hm] at hc
  have H0 := Lib.hid hW0
  have htz := hf.ht
  have HX := Lib.hid hX
  clear hX
  have z1 : (⟨#[91]⟩ ++ F : ByteArray).size ≤ 22 := by rw [ByteArray.size_append]; show 1 + _ ≤ _; omega
  clear hW0 hl hf
  go_enter Tryz.func16, Tryz.ntmps16
  go_wp2_with (first
    | ((try rw [← H0.out]); (with_reducible refine wpList_load6 (.tmp 1) w.heap.size S ?_ ?_ ?_ ?_); rfl; rfl; rfl)
    | (go_at_call 14; (with_reducible refine (hc _ b0).mono ?_); rintro e w' ⟨rfl, hb⟩; replace S := S.below hb; replace b0 := below_any b0 hb b0.size; have f0 := S.c0; have f1 := S.c1; have f2 := S.c2; have f3 := S.c3; have f5 := S.c5; clear hb)
    | (go_at_call 42; (with_reducible refine (hN _).mono ?_); rintro e w' ⟨rfl, hb⟩; replace b0 := below_any b0 hb b0.size; clear hb))
  go_ret
  exact ⟨by rw [HX.out]; rfl, b0⟩

set_option maxRecDepth 20000 in
set_option maxHeartbeats 3200000 in
theorem rtWhole (b : Bool) (n : Int) (t x : ByteArray) (p : Option Addr) (q : List Val) (cap : Nat) (w : World) (X : ByteArray) (hf : Fine n t x q.length) (hl : Held w (.slice p q.length cap) q) (hm : mayP (.mk 2 b n t x q) 0 = true) (F : ByteArray) (hF : F.size ≤ 21) (hN : ∀ W, Calls Tryz.prog 41 #[.int .i64 n] W fun e w' => e = .returned (.string (F ++ ⟨#[46, 48]⟩)) ∧ Below W.heap.size W w') (hX : X = F) :
    Calls Tryz.prog 16 #[.agg #[.int .i64 2, .bool b, .int .i64 n, .string t, .string x, .slice p q.length cap]] w fun e w' => e = .returned (.string X) ∧ Below w.heap.size w w' := by
  obtain ⟨W0, hW0⟩ : ∃ W0, W0 = w.alloc (.cells #[.int .i64 2, .bool b, .int .i64 n, .string t, .string x, .slice p q.length cap] 28) := ⟨_, rfl⟩
  have S : Six W0 w.heap.size 2 b n t x p q.length cap := by rw [hW0]; exact six_new _ rfl
  have b0 : Below w.heap.size w W0 := by rw [hW0]; exact below1 _ _
  have hc := fun W (h : Below w.heap.size w W) => refMay 2 b n t x q p cap W hf (Held.below q hl h)
  rw [hm] at hc
  have H0 := Lib.hid hW0
  have htz := hf.ht
  subst hX
  obtain ⟨Y, hY⟩ : ∃ Y, Y = X ++ (⟨#[46, 48]⟩ : ByteArray) := ⟨_, rfl⟩
  rw [← hY] at hN
  have hys : Y.size = X.size + 2 := by rw [hY, ByteArray.size_append]; rfl
  have hcut : Y.extract 0 X.size = X := by rw [hY]; apply bytes_ext; simp; exact List.take_of_length_le (by rw [Array.length_toList]; exact Nat.le_refl _)
  have HY := Lib.hid hcut
  have hy2 : Y.size ≤ 23 := by omega
  have hy3 : 2 ≤ Y.size := by omega
  clear hY hcut
  clear hW0 hl hf
  go_enter Tryz.func16, Tryz.ntmps16
  go_wp2_with (first
    | ((try rw [← H0.out]); (with_reducible refine wpList_load6 (.tmp 1) w.heap.size S ?_ ?_ ?_ ?_); rfl; rfl; rfl)
    | (go_at_call 14; (with_reducible refine (hc _ b0).mono ?_); rintro e w' ⟨rfl, hb⟩; replace S := S.below hb; replace b0 := below_any b0 hb b0.size; have f0 := S.c0; have f1 := S.c1; have f2 := S.c2; have f3 := S.c3; have f5 := S.c5; clear hb)
    | (go_at_call 41; (with_reducible refine (hN _).mono ?_); rintro e w' ⟨rfl, hb⟩; replace b0 := below_any b0 hb b0.size; clear hb))
  go_ret
  refine ⟨?_, b0⟩
  have e9 : ((Y.size : Int) - 2).toNat = X.size := by omega
  have h9 := HY.out
  try simp only [e9, h9]
  try rfl
end Go.Proofs.YtoifjjgakblhhaaGreatDoor

/- The document's own text: lists; all kinds put together. -/
namespace Go.Proofs.YtoifjjgakblhhaaGreatDoor
open Go.RowKit

/-- The document's own Text's contract at a value that may be. -/
def RTextAt (v : Val) : Prop := ∀ (W : World) (k : Int) (b : Bool) (n : Int) (t x : ByteArray) (q : List Val) (p : Option Addr) (cap : Nat), v = .mk k b n t x q → Fine n t x q.length → Held W (.slice p q.length cap) q → fineV v → mayP v 0 = true → 27 * wOne v ≤ 800000000 →
  Calls Tryz.prog 16 #[.agg #[.int .i64 k, .bool b, .int .i64 n, .string t, .string x, .slice p q.length cap]] W fun e w' => e = .returned (.string (bs (showP v))) ∧ Below W.heap.size W w'
theorem wAll_takes : (l : List Val) → (j : Nat) → wAll (l.take j) ≤ wAll l
  | [], _ => by simp
  | v :: r, 0 => by simp [wAll]
  | v :: r, j + 1 => by
    show wAll (v :: r.take j) ≤ _
    have := wAll_takes r j
    unfold wAll
    omega
theorem heldOf3 {w : World} {g off cap : Nat} {l : List Val} (h : Holds w g off l) : Held w (.slice (some ⟨g, off, none⟩) l.length cap) l := by
  cases l with
  | nil => unfold Held; exact ⟨_, _, rfl⟩
  | cons v r =>
    unfold Holds at h
    unfold Held
    exact ⟨g, off, cap, rfl, h.1, h.2⟩
set_option maxRecDepth 20000 in
set_option maxHeartbeats 6400000 in
theorem rtListSome (b : Bool) (n : Int) (t x : ByteArray) (g off : Nat) (q : List Val) (cap : Nat) (w : World) (X : ByteArray) (hf : Fine n t x q.length) (hh : Holds w g off q) (hm : mayP (.mk 5 b n t x q) 0 = true) (hX : X = bs ([91] ++ showAll q true ++ [93])) (hfi : fineAll q) (hw : 27 * wAll q ≤ 799999980) (each : ∀ u ∈ q, RTextAt u) :
    Calls Tryz.prog 16 #[.agg #[.int .i64 5, .bool b, .int .i64 n, .string t, .string x, .slice (some ⟨g, off, none⟩) q.length cap]] w fun e w' => e = .returned (.string X) ∧ Below w.heap.size w w' := by
  obtain ⟨W0, hW0⟩ : ∃ W0, W0 = w.alloc (.cells #[.int .i64 5, .bool b, .int .i64 n, .string t, .string x, .slice (some ⟨g, off, none⟩) q.length cap] 28) := ⟨_, rfl⟩
  have S : Six W0 w.heap.size 5 b n t x (some ⟨g, off, none⟩) q.length cap := by rw [hW0]; exact six_new _ rfl
  have b0 : Below w.heap.size w W0 := by rw [hW0]; exact below1 _ _
  have hc := fun W (h : Below w.heap.size w W) => refMay 5 b n t x q (some ⟨g, off, none⟩) cap W hf (Held.below q (heldOf3 hh) h)
  have hmay : ∀ u ∈ q, mayP u 0 = true := fun u hu => by
    unfold mayP fitsP at hm
    simp only [show ¬ (5 : Int) = 0 by decide, show ¬ (5 : Int) = 1 by decide, show ¬ (5 : Int) = 2 by decide, show ¬ (5 : Int) = 3 by decide, show ¬ (5 : Int) = 4 by decide, if_false, if_true, Bool.and_eq_true] at hm
    exact may_out u 0 1 (by omega) (each_mem hm.1.2 hu)
  rw [hm] at hc
  have H0 := Lib.hid hW0
  have HX := Lib.hid hX
  have HH := Lib.hid hh
  have HWT := Lib.hid hw
  have HE := Lib.hid each
  have HK := Lib.hid hfi
  have HM := Lib.hid hmay
  have hn1 := hf.hn
  clear hW0 hf hh hX hfi hw each hmay hm
  go_enter Tryz.func16, Tryz.ntmps16
  go_wp2_with (first
    | ((try rw [← H0.out]); (with_reducible refine wpList_load6 (.tmp 1) w.heap.size S ?_ ?_ ?_ ?_); rfl; rfl; rfl)
    | (go_at_call 14; (with_reducible refine (hc _ b0).mono ?_); rintro e w' ⟨rfl, hb⟩; replace S := S.below hb; replace b0 := below_any b0 hb b0.size; have f0 := S.c0; have f5 := S.c5; clear hb))
  go_loopg [4, 5] q.length (fun gg s4 s5 wr => ∃ (j : Nat) (Y : ByteArray), j + gg = q.length ∧ s5 = .int .i64 j ∧ s4 = .string Y ∧ Hid (Y = bs ([91] ++ showAll (q.take j) true)) ∧ Y.size ≤ 799999990 ∧ Six wr w.heap.size 5 b n t x (some ⟨g, off, none⟩) q.length cap ∧ Below w.heap.size w wr)
  case atStart => exact ⟨0, _, by omega, rfl, rfl, Lib.hid (by simp [showAll]), by decide, S, b0⟩
  case round =>
    clear S b0 f0 f5 hc
    obtain ⟨j, Y, hjg, rfl, rfl, HY, hys, S, b0⟩ := hrel
    have f5 := S.c5
    by_cases hlt : (j : Int) < q.length
    · have hj1 : j < q.length := by omega
      obtain ⟨k', b', m', t', x', q', p', cp', o⟩ := (Holds.at_ q off HH.out j hj1).opens
      have o1 := o.below b0
      have c0 := o1.c0
      have c1 := o1.c1
      have c2 := o1.c2
      have c3 := o1.c3
      have c4 := o1.c4
      have c5 := o1.c5
      have hwt : 27 * wOne q[j] ≤ 800000000 := by
        have h1 := wAll_take q j hj1
        have h3 := HWT.out
        omega
      obtain ⟨E, hE⟩ : ∃ E, E = bs (showP q[j]) := ⟨_, rfl⟩
      have hc := HE.out q[j] (List.getElem_mem hj1) wr k' b' m' t' x' q' p' cp' o.e o.hf (Held.below q' o.hl b0) (fine_mem HK.out (List.getElem_mem hj1)) (HM.out _ (List.getElem_mem hj1)) hwt
      rw [← hE] at hc
      have hes : E.size ≤ 800000000 := by
        rw [hE, bs_size]
        have := showP_len q[j] (fine_mem HK.out (List.getElem_mem hj1))
        omega
      have HEE := Lib.hid hE
      have he := showAll_take q true j hj1
      clear o o1 hwt hE
      by_cases hj0 : (0 : Int) < j
      · skip
        have he2 : [91] ++ showAll (q.take (j + 1)) true = [91] ++ showAll (q.take j) true ++ [44, 32] ++ showP q[j] := by
          rw [he, show (true && j == 0) = false by simp; omega]
          simp
        have hfin : bs ([91] ++ showAll (q.take (j + 1)) true) = (Y ++ ⟨#[44, 32]⟩ : ByteArray) ++ E := by
          rw [he2, ← bs_append, ← bs_append, ← HY.out, HEE.out]
          try rfl
        have hyc : (Y ++ ⟨#[44, 32]⟩ : ByteArray).size ≤ 800000000 := by rw [ByteArray.size_append]; show Y.size + 2 ≤ _; omega
        have hyn : ((Y ++ ⟨#[44, 32]⟩ : ByteArray) ++ E : ByteArray).size ≤ 799999990 := by
          rw [← hfin, bs_size]
          have h1 := showAll_len (q.take (j + 1)) true (fine_take q (j + 1) HK.out)
          have h2 := HWT.out
          have h3 := wAll_takes q (j + 1)
          simp only [List.length_append, List.length_cons, List.length_nil]
          omega
        have HFN := Lib.hid hfin
        have HYN := Lib.hid hyn
        clear he he2 hfin hyn
        go_wp2_with (first
          | ((with_reducible refine wpList_loadMid6 (.tmp 69) g (off + j * 6) k' b' m' t' x' (.slice p' q'.length cp') c0 c1 c2 c3 c4 c5 ?_ ?_ ?_ ?_); rfl; rfl; rfl)
          | (go_at_call 16; (with_reducible refine hc.mono ?_); rintro e w3 ⟨rfl, hb3⟩; have S9 := Lib.hid (S.below hb3); have b9 := Lib.hid (below_any b0 hb3 b0.size); clear hb3))
        clear hc c0 c1 c2 c3 c4 c5 S b0
        go_roundg (gk - 1)
        case measure => omega
        case rel => exact ⟨j + 1, _, by omega, by go_num, rfl, Lib.hid HFN.out.symm, HYN.out, S9.out, b9.out⟩
      · skip
        have he2 : [91] ++ showAll (q.take (j + 1)) true = [91] ++ showAll (q.take j) true ++ showP q[j] := by
          rw [he, show (true && j == 0) = true by simp; omega]
          simp
        have hfin : bs ([91] ++ showAll (q.take (j + 1)) true) = Y ++ E := by
          rw [he2, ← bs_append, ← HY.out, HEE.out]
          try rfl
        have hyn : (Y ++ E : ByteArray).size ≤ 799999990 := by
          rw [← hfin, bs_size]
          have h1 := showAll_len (q.take (j + 1)) true (fine_take q (j + 1) HK.out)
          have h2 := HWT.out
          have h3 := wAll_takes q (j + 1)
          simp only [List.length_append, List.length_cons, List.length_nil]
          omega
        have HFN := Lib.hid hfin
        have HYN := Lib.hid hyn
        clear he he2 hfin hyn
        go_wp2_with (first
          | ((with_reducible refine wpList_loadMid6 (.tmp 69) g (off + j * 6) k' b' m' t' x' (.slice p' q'.length cp') c0 c1 c2 c3 c4 c5 ?_ ?_ ?_ ?_); rfl; rfl; rfl)
          | (go_at_call 16; (with_reducible refine hc.mono ?_); rintro e w3 ⟨rfl, hb3⟩; have S9 := Lib.hid (S.below hb3); have b9 := Lib.hid (below_any b0 hb3 b0.size); clear hb3))
        clear hc c0 c1 c2 c3 c4 c5 S b0
        go_roundg (gk - 1)
        case measure => omega
        case rel => exact ⟨j + 1, _, by omega, by go_num, rfl, Lib.hid HFN.out.symm, HYN.out, S9.out, b9.out⟩
    · have e : q.take j = q := by rw [List.take_of_length_le]; omega
      have hy := HY.out
      rw [e] at hy
      have hfin : X = Y ++ ⟨#[93]⟩ := by rw [HX.out, ← bs_append, hy]; try rfl
      have HF := Lib.hid hfin
      clear hy hfin
      go_wp2_with fail
      go_ret
      exact ⟨by rw [HF.out]; rfl, b0⟩
set_option maxRecDepth 20000 in
set_option maxHeartbeats 6400000 in
theorem rtListNil (b : Bool) (n : Int) (t x : ByteArray) (p : Option Addr) (cap : Nat) (w : World) (X : ByteArray) (hf : Fine n t x 0) (hm : mayP (.mk 5 b n t x []) 0 = true) (hX : X = ⟨#[91, 93]⟩) :
    Calls Tryz.prog 16 #[.agg #[.int .i64 5, .bool b, .int .i64 n, .string t, .string x, .slice p 0 cap]] w fun e w' => e = .returned (.string X) ∧ Below w.heap.size w w' := by
  obtain ⟨W0, hW0⟩ : ∃ W0, W0 = w.alloc (.cells #[.int .i64 5, .bool b, .int .i64 n, .string t, .string x, .slice p 0 cap] 28) := ⟨_, rfl⟩
  have S : Six W0 w.heap.size 5 b n t x p 0 cap := by rw [hW0]; exact six_new _ rfl
  have b0 : Below w.heap.size w W0 := by rw [hW0]; exact below1 _ _
  have hc : ∀ W, Below w.heap.size w W → Calls Tryz.prog 14 #[.agg #[.int .i64 5, .bool b, .int .i64 n, .string t, .string x, .slice p 0 cap]] W fun e w' => e = .returned (.bool (mayP (.mk 5 b n t x []) 0)) ∧ Below W.heap.size W w' := fun W (h : Below w.heap.size w W) => refMay 5 b n t x [] p cap W hf (by unfold Held; exact ⟨p, cap, rfl⟩)
  rw [hm] at hc
  have H0 := Lib.hid hW0
  clear hW0 hf hm
  go_enter Tryz.func16, Tryz.ntmps16
  go_wp2_with (first
    | ((try rw [← H0.out]); (with_reducible refine wpList_load6 (.tmp 1) w.heap.size S ?_ ?_ ?_ ?_); rfl; rfl; rfl)
    | (go_at_call 14; (with_reducible refine (hc _ b0).mono ?_); rintro e w' ⟨rfl, hb⟩; replace S := S.below hb; replace b0 := below_any b0 hb b0.size; have f0 := S.c0; have f5 := S.c5; clear hb))
  go_loopg [4, 5] 0 (fun gg s4 s5 wr => gg = 0 ∧ s5 = .int .i64 0 ∧ s4 = .string ⟨#[91]⟩ ∧ Six wr w.heap.size 5 b n t x p 0 cap ∧ Below w.heap.size w wr)
  case atStart => exact ⟨rfl, rfl, rfl, S, b0⟩
  case round =>
    clear S b0 f0 f5 hc
    obtain ⟨_, rfl, rfl, S, b0⟩ := hrel
    have f5 := S.c5
    go_wp2_with fail
    go_ret
    exact ⟨by rw [hX]; rfl, b0⟩
theorem rtStep (v : Val) (k : Int) (b : Bool) (n : Int) (t x : ByteArray) (q : List Val) (ev : v = .mk k b n t x q) (each : ∀ u ∈ q, RTextAt u) : RTextAt v := by
  subst ev
  intro w k1 b1 n1 t1 x1 q1 p cap e hf hl hfi hm hw
  cases e
  have hok := okS_may _ _ hm
  unfold fineV at hfi
  have hw' := hw
  unfold wOne at hw'
  by_cases h0 : k = 0
  · subst h0; exact rtNull b n t x p q cap w _ hf hl hm (by unfold showP; rfl)
  by_cases h1 : k = 1
  · subst h1
    cases b with
    | true => exact rtBoolTrue n t x p q cap w _ hf hl hm (by unfold showP; simp)
    | false => exact rtBoolFalse n t x p q cap w _ hf hl hm (by unfold showP; simp)
  by_cases h2 : k = 2
  · subst h2
    have hs : (bs (Lib.itoa n)).size ≤ 21 := by rw [bs_size]; exact Lib.itoa_length_le n hf.lo hf.hi
    refine rtWhole b n t x p q cap w _ hf hl hm (bs (Lib.itoa n)) hs (fun W => ?_) (by unfold showP; simp)
    by_cases hn : 0 ≤ n
    · obtain ⟨u, rfl⟩ : ∃ u : Nat, n = (u : Int) := ⟨n.toNat, by omega⟩
      rw [Lib.itoa_nonneg]
      exact refOfIntNat u (by have := hf.hi; omega) W _ (Lib.hid rfl)
    · obtain ⟨u, rfl⟩ : ∃ u : Nat, n = -(u : Int) := ⟨n.natAbs, by omega⟩
      have h9 := refOfIntNeg u (by omega) (by have := hf.lo; omega) W (bs (Lib.decDigits u)) (Lib.hid rfl)
      rw [Lib.itoa_neg u (by omega)]
      have e9 : bs (45 :: Lib.decDigits u) = ⟨#[45]⟩ ++ bs (Lib.decDigits u) := by
        rw [show (⟨#[45]⟩ : ByteArray) = bs [45] from rfl, bs_append]
        rfl
      rw [e9]
      exact h9
  by_cases h3 : k = 3
  · subst h3; exact rtExact b n t x p q cap w _ hf hl hm (by unfold showP; simp [txtB, bs_self])
  by_cases h4 : k = 4
  · subst h4; exact rtText b n t x p q cap w _ hf hl hm (by unfold showP; simp [txtB, bs_self])
  by_cases h5 : k = 5
  · subst h5
    have hx : showP (.mk 5 b n t x q) = [91] ++ showAll q true ++ [93] := by unfold showP; simp
    cases q with
    | nil => exact rtListNil b n t x p cap w _ hf hm (by rw [hx]; simp [showAll])
    | cons v r =>
      obtain ⟨g, off, rfl, hh⟩ := hl.form
      exact rtListSome b n t x g off (v :: r) cap w _ hf hh hm (by rw [hx]) hfi.2 (by omega) each
  by_cases h6 : k = 6
  · subst h6
    unfold okS at hok
    have hn := hok.1 (.inl rfl)
    obtain ⟨u, rfl⟩ : ∃ u : Nat, n = (u : Int) := ⟨n.toNat, by omega⟩
    refine rtNode b u t x p q cap w _ hf hl hm (bs (Lib.decDigits u)) (by rw [bs_size]; exact digits_len u (by have := hf.hi; omega)) (fun W => refNumAt u (by have := hf.hi; omega) W) ?_
    have e : showP (.mk 6 b u t x q) = [40] ++ Lib.decDigits u ++ [41] := by unfold showP; simp [Lib.itoa_nonneg]
    rw [e, ← bs_append, ← bs_append]
    try rfl
  by_cases h7 : k = 7
  · subst h7
    unfold okS at hok
    have hn := hok.1 (.inr rfl)
    obtain ⟨u, rfl⟩ : ∃ u : Nat, n = (u : Int) := ⟨n.toNat, by omega⟩
    refine rtEdge b u t x p q cap w _ hf hl hm (bs (Lib.decDigits u)) (by rw [bs_size]; exact digits_len u (by have := hf.hi; omega)) (fun W => refNumAt u (by have := hf.hi; omega) W) ?_
    have e : showP (.mk 7 b u t x q) = [91] ++ Lib.decDigits u ++ [93] := by unfold showP; simp [Lib.itoa_nonneg]
    rw [e, ← bs_append, ← bs_append]
    try rfl
  by_cases h8 : k = 8
  · subst h8
    refine rtIri b n t x p q cap w _ hf hl hm ?_
    have e : showP (.mk 8 b n t x q) = [60] ++ txtB t ++ [62] := by unfold showP; simp
    rw [e, ← bs_append, ← bs_append, show bs (txtB t) = t from bs_self t]
    try rfl
  by_cases h9 : k = 9
  · subst h9
    refine rtBlank b n t x p q cap w _ hf hl hm ?_
    have e : showP (.mk 9 b n t x q) = [95, 58] ++ txtB t := by unfold showP; simp
    rw [e, ← bs_append, show bs (txtB t) = t from bs_self t]
    try rfl
  by_cases h10 : k = 10
  · subst h10; exact rtLit b n t x p q cap w _ hf hl hm (by unfold showP; simp [txtB, bs_self])
  · exfalso
    unfold mayP fitsP at hm
    simp [h0, h1, h2, h3, h4, h5, h6, h7, h8, h9, h10] at hm
mutual
theorem rtVal : (v : Val) → RTextAt v
  | .mk k b n t x q => rtStep _ k b n t x q rfl (rtEach q)
theorem rtEach : (q : List Val) → ∀ u ∈ q, RTextAt u
  | [], _, h => absurd h (by simp)
  | v :: r, u, h => by
    rcases List.mem_cons.1 h with h | h
    · rw [h]; exact rtVal v
    · exact rtEach r u h
end
/-- The document's own Text tells the same text. -/
theorem refTextOf (v : Val) (k : Int) (b : Bool) (n : Int) (t x : ByteArray) (q : List Val) (p : Option Addr) (cap : Nat) (w : World) (ev : v = .mk k b n t x q) (hf : Fine n t x q.length) (hl : Held w (.slice p q.length cap) q) (hfi : fineV v) (hw : 27 * wOne v ≤ 800000000) :
    Calls Tryz.prog 16 #[.agg #[.int .i64 k, .bool b, .int .i64 n, .string t, .string x, .slice p q.length cap]] w fun e w' => e = .returned (.string (bs (textP v))) ∧ Below w.heap.size w w' := by
  cases hm : mayP v 0 with
  | true => rw [textP_yes hm]; exact rtVal v w k b n t x q p cap ev hf hl hfi hm hw
  | false =>
    rw [textP_no hm]
    subst ev
    exact rtNo k b n t x p q cap w _ hf hl hm rfl
end Go.Proofs.YtoifjjgakblhhaaGreatDoor

/- Two lists, one behind the other: joinLists. -/
namespace Go.Proofs.YtoifjjgakblhhaaGreatDoor
open Go.RowKit

end Go.Proofs.YtoifjjgakblhhaaGreatDoor

/- The copies that the document's own text makes of values. -/
namespace Go.Proofs.YtoifjjgakblhhaaGreatDoor
open Go.RowKit

theorem results_sixA {fn : Func} {p : Tmp} (h : fn.results = #[.cell p 28]) (tmps : Array Value) {w : World} {g : Nat} {k : Int} {b : Bool} {n : Int} {t x : ByteArray} {pp : Option Addr} {len cap : Nat}
    (hp : tmps.getD p undef = .pointer (some ⟨g, 0, none⟩)) (hg : Six w g k b n t x pp len cap) : (results fn tmps).run Tryz.prog w = .ok (.agg #[.int .i64 k, .bool b, .int .i64 n, .string t, .string x, .slice pp len cap]) w := by
  have hp' : tmps[p]?.getD undef = .pointer (some ⟨g, 0, none⟩) := by simpa using hp
  have hl := run_loadVar_row (P := Tryz.prog) w g 28 28 _ (0, 0) _ hg Tryz.underlying28 rfl info28
  simp [results, h, hp', asAddr, hl]
/-- What CopyValue tells: the same cells, and a list of new blocks. -/
def RValPost (w : World) (k : Int) (b : Bool) (n : Int) (t x : ByteArray) (q : List Val) (e : Ending) (w' : World) : Prop :=
  ∃ p c, e = .returned (.agg #[.int .i64 k, .bool b, .int .i64 n, .string t, .string x, .slice p q.length c]) ∧ HeldF w' (fun g => w.heap.size < g ∧ g < w'.heap.size) (.slice p q.length c) q ∧ Below w.heap.size w w'
def RCopyV (v : Val) : Prop := ∀ (W : World) (k : Int) (b : Bool) (n : Int) (t x : ByteArray) (q : List Val) (p : Option Addr) (cap : Nat), v = .mk k b n t x q → q.length ≤ 2097152 → Held W (.slice p q.length cap) q →
  Calls Tryz.prog 37 #[.slice p q.length cap] W (CopyPost W q)

set_option maxRecDepth 20000 in
set_option maxHeartbeats 3200000 in
theorem rcopyValue (k : Int) (b : Bool) (n : Int) (t x : ByteArray) (q : List Val) (p : Option Addr) (cap : Nat) (w : World) (hc : ∀ W, Below w.heap.size w W → Calls Tryz.prog 37 #[.slice p q.length cap] W (CopyPost W q)) :
    Calls Tryz.prog 12 #[.agg #[.int .i64 k, .bool b, .int .i64 n, .string t, .string x, .slice p q.length cap]] w (RValPost w k b n t x q) := by
  obtain ⟨W0, hW0⟩ : ∃ W0, W0 = (w.alloc (.cells #[.int .i64 k, .bool b, .int .i64 n, .string t, .string x, .slice p q.length cap] 28)).alloc (.cells #[.int .i64 0, .bool false, .int .i64 0, .string ⟨#[]⟩, .string ⟨#[]⟩, .slice none 0 0] 28) := ⟨_, rfl⟩
  have S1 : Six W0 w.heap.size k b n t x p q.length cap := by rw [hW0]; exact (six_new _ rfl).alloc _
  have S2 : Six W0 (w.heap.size + 1) 0 false 0 ⟨#[]⟩ ⟨#[]⟩ none 0 0 := by rw [hW0]; exact six_new _ (by simp)
  have b0 : Below w.heap.size w W0 := by rw [hW0]; exact (below1 _ _).alloc (by simp) _
  have z0 : W0.heap.size = w.heap.size + 2 := by rw [hW0]; simp
  have c5 := S1.c5
  have H0 := Lib.hid hW0
  have HZ := Lib.hid z0
  clear hW0 z0
  go_enter Tryz.func12, Tryz.ntmps12
  go_wp2_with (first
    | (go_at_call 37; rw [← H0.out]; (with_reducible refine (hc _ b0).mono ?_); rintro e w2 ⟨V, ys, rfl, hv, hcs, hb2⟩
       have hq2 : HeldF w2 (fun g => w.heap.size + 1 < g ∧ g < w2.heap.size) V q := heldF_of_own hv hcs (fun g hg => ⟨by have := hg.1; have := HZ.out; omega, hg.2.1⟩) (fun g hg => ⟨by have := (hv.lt g hg).1; have := HZ.out; omega, (hv.lt g hg).2⟩)
       obtain ⟨p2, c2, rfl⟩ := held_slice hq2.held
       have T1 := S1.below hb2; have T2 := S2.below hb2; have b2 := below_any b0 hb2 b0.size; have c5 := T1.c5; have f5 := T1.free 5
       have HQ := Lib.hid hq2; clear hq2 hv hcs hb2 S1 S2 b0)
    | ((with_reducible refine wpList_load6 (.tmp 1) w.heap.size (T1.set5 p2 q.length c2) ?_ ?_ ?_ ?_); rfl; rfl; rfl)
    | ((with_reducible refine wpList_store6 (k' := k) (b' := b) (n' := n) (t' := t) (x' := x) (p' := p2) (len' := q.length) (cap' := c2) (.tmp 2) (.tmp 7) (w.heap.size + 1) (Six.only T2 (Only.refl w.heap.size _ |>.setCell 5 none _) (by omega)) ?_ ?_ ?_ ?_ ?_); rfl; rfl; rfl; rfl; intro w9 on9 S9))
  have on5 : Only w.heap.size w2 (w2.setCell ⟨w.heap.size, 5, none⟩ (.slice p2 q.length c2)) := (Only.refl w.heap.size w2).setCell 5 none _
  have s5 := on5.size
  have s9 := on9.size
  have b5 : Below w.heap.size w (w2.setCell ⟨w.heap.size, 5, none⟩ (.slice p2 q.length c2)) := below_only b2 on5 (Nat.le_refl _) b2.size
  refine bodyPost_ret (results_sixA (p := 2) Tryz.results12 _ rfl S9) rfl ⟨p2, c2, rfl, ?_, below_only b5 on9 (by omega) b5.size⟩
  exact HQ.out.stays (P' := fun g => w.heap.size < g ∧ g < w9.heap.size) (fun g hg => ⟨⟨by omega, by omega⟩, (on9.block g (by omega) (by omega)).trans (on5.block g (by omega) (by omega))⟩) q
set_option maxRecDepth 20000 in
set_option maxHeartbeats 6400000 in
theorem rcopySome (l : List Val) (g off cap : Nat) (w : World) (hl : Holds w g off l) (hn : l.length ≤ 2097152) (each : ∀ v ∈ l, RCopyV v) :
    Calls Tryz.prog 37 #[.slice (some ⟨g, off, none⟩) l.length cap] w (CopyPost w l) := by
  obtain ⟨n, hln⟩ : ∃ n, n = l.length := ⟨_, rfl⟩
  rw [← hln] at hn ⊢
  obtain ⟨i0, hi, hz0, hz1, hz2⟩ := info_parts info28b
  have HL := Lib.hid hln
  have HH := Lib.hid hl
  have HE := Lib.hid each
  clear hl hln each
  go_enter Tryz.func37, Tryz.ntmps37
  go_wp2_with fail
  go_loopg [3, 4] n (fun gg s3 s4 wr => ∃ j : Nat, j + gg = n ∧ s4 = .int .i64 j ∧ Hid (Acc w (l.take j) s3 wr))
  case atStart => exact ⟨0, by omega, rfl, Lib.hid ⟨⟨[], by simpa using World.ownsRow_nil w w.heap.size 28 6, by unfold CellsF; rfl⟩, Below.refl _ _⟩⟩
  case round =>
    obtain ⟨j, hjg, rfl, HA⟩ := hrel
    by_cases hlt : (j : Int) < n
    · have hj1 : j < l.length := by have := HL.out; omega
      obtain ⟨k, b, m, t, x, q, p, cp, o1⟩ := ((Holds.at_ l off HH.out j hj1).below _ HA.out.bel).opens
      have hcp : Calls Tryz.prog 12 #[.agg #[.int .i64 k, .bool b, .int .i64 m, .string t, .string x, .slice p q.length cp]] wr (RValPost wr k b m t x q) :=
        rcopyValue k b m t x q p cp wr fun W h => HE.out l[j] (List.getElem_mem hj1) W k b m t x q p cp o1.e o1.hf.hn (Held.below q o1.hl h)
      unfold RValPost at hcp
      have HF := Lib.hid o1.hf
      have HV := Lib.hid o1.e
      have hjl : (l.take j).length = j := by rw [List.length_take]; omega
      have c0 := o1.c0
      have c1 := o1.c1
      have c2 := o1.c2
      have c3 := o1.c3
      have c4 := o1.c4
      have c5 := o1.c5
      clear o1
      go_wp2_with (first
        | ((with_reducible refine wpList_loadMid6 (.tmp 14) g (off + j * 6) k b m t x _ c0 c1 c2 c3 c4 c5 ?_ ?_ ?_ ?_); rfl; rfl; rfl)
        | (go_at_call 12; (with_reducible refine hcp.mono ?_); rintro e wf ⟨p5, k5, rfl, hq0, bf0⟩
           obtain ⟨⟨xs, hown, hcs⟩, hbel⟩ := HA.out
           have hownX := own_below hown bf0
           have hbs := hbel.size
           have hfs := bf0.size
           have HX := Lib.hid (And.intro hown (And.intro hcs (And.intro hbel (And.intro bf0 hq0))))
           clear hown hcs hbel bf0 hq0 HA c0 c1 c2 c3 c4 c5 hcp)
        | (at_builtin; refine wpList_append_own_at _ rfl _ _ 22 rfl w.heap.size 28 i0 (.agg #[.int .i64 0, .bool false, .int .i64 0, .string ⟨#[]⟩, .string ⟨#[]⟩, .slice none 0 0]) 6 80 Tryz.underlying22 hi hz0 hz1 hz2 rfl (by decide) _ _ _ rfl (hownX.alloc _) ⟨wf.heap.size, 0, none⟩ 1 1 [.int .i64 k, .bool b, .int .i64 m, .string t, .string x, .slice p5 q.length k5] rfl rfl (cell_six_new _ _ _ _ _ _ _ _) ?_ ?_ ?_ ?_ ?_))
      all_goals (try (first | (rw [hjl]; unfold maxLen; omega) | (rw [hjl]; omega) | (simp; omega) | (intro u hu; simp only [List.mem_cons, List.mem_nil_iff, or_false] at hu; rcases hu with rfl | rfl | rfl | rfl | rfl | rfl <;> rfl)))
      intro v' w1 hown' hgrow _ hloc
      have acc := Acc.next (k := k) (b := b) (n := m) (t := t) (x := x) (q := q) rfl HX.out.1 HX.out.2.1 HX.out.2.2.1 HX.out.2.2.2.1 HF.out HX.out.2.2.2.2 (by rw [hjl]; exact hown') hgrow hloc
      have e : l.take (j + 1) = l.take j ++ [.mk k b m t x q] := by rw [List.take_succ_eq_append_getElem hj1, HV.out]
      rw [← e] at acc
      have ACC := Lib.hid acc
      clear acc hown' hgrow hloc hownX
      go_wp2_with fail
      go_roundg (gk - 1)
      case measure => omega
      case rel => exact ⟨j + 1, by omega, by go_num, ACC⟩
    · have e : l.take j = l := by rw [List.take_of_length_le]; have := HL.out; omega
      have hA := HA.out
      rw [e] at hA
      obtain ⟨⟨xs, hown, hcs⟩, hbel⟩ := hA
      have HX := Lib.hid (And.intro hown (And.intro hcs hbel))
      clear hown hcs hbel HA
      go_wp2_with fail
      go_ret
      exact ⟨_, xs, rfl, HX.out.1, HX.out.2.1, HX.out.2.2⟩

theorem rcopy_list (q : List Val) (p : Option Addr) (cap : Nat) (w : World) (hl : Held w (.slice p q.length cap) q) (hn : q.length ≤ 2097152) (each : ∀ u ∈ q, RCopyV u) :
    Calls Tryz.prog 37 #[.slice p q.length cap] w (CopyPost w q) := by
  cases q with
  | nil =>
    go_enter Tryz.func37, Tryz.ntmps37
    go_wp2_with fail
    go_loopg [3, 4] 0 (fun gg s3 s4 wr => gg = 0 ∧ s4 = .int .i64 0 ∧ s3 = .slice none 0 0 ∧ wr = w)
    case atStart => exact ⟨rfl, rfl, rfl, rfl⟩
    case round =>
      obtain ⟨_, rfl, rfl, rfl⟩ := hrel
      go_wp2_with fail
      go_ret
      exact ⟨_, [], rfl, World.ownsRow_nil _ _ 28 6, by unfold CellsF; rfl, Below.refl _ _⟩
  | cons v r =>
    obtain ⟨g, off, rfl, hh⟩ := hl.form
    exact rcopySome (v :: r) g off cap w hh hn each
mutual
theorem rcopyVal : (v : Val) → RCopyV v
  | .mk k b n t x q => fun W k1 b1 n1 t1 x1 q1 p cap e hn hl => by
    cases e
    exact rcopy_list q p cap W hl hn (rcopyEach q)
theorem rcopyEach : (q : List Val) → ∀ u ∈ q, RCopyV u
  | [], _, h => absurd h (by simp)
  | v :: r, u, h => by
    rcases List.mem_cons.1 h with h | h
    · rw [h]; exact rcopyVal v
    · exact rcopyEach r u h
end
/-- CopyValue. -/
theorem rcopyAt (k : Int) (b : Bool) (n : Int) (t x : ByteArray) (q : List Val) (p : Option Addr) (cap : Nat) (w : World) (hf : Fine n t x q.length) (hl : Held w (.slice p q.length cap) q) :
    Calls Tryz.prog 12 #[.agg #[.int .i64 k, .bool b, .int .i64 n, .string t, .string x, .slice p q.length cap]] w (RValPost w k b n t x q) :=
  rcopyValue k b n t x q p cap w fun W h => rcopyVal (.mk k b n t x q) W k b n t x q p cap rfl hf.hn (Held.below q hl h)
end Go.Proofs.YtoifjjgakblhhaaGreatDoor
