/- What Arith tells of two lists. -/
import Derived.Test.YtoifjjgakblhhaaGreatDoorLDm
namespace Go.Proofs.YtoifjjgakblhhaaGreatDoor
open Go.RowKit

theorem opYes (w : World) : Calls Tryz.prog 59 #[.int .i64 17] w fun e w' => e = .returned (.bool true) ∧ w' = w := by
  go_enter Tryz.func59, Tryz.ntmps59
  go_wp2_with fail
  go_ret
  exact ⟨rfl, rfl⟩
/-- What is refused. -/
def ErrPost (w : World) (e : Ending) (w' : World) : Prop := e = .returned (.tuple #[.agg #[.int .i64 0, .bool false, .int .i64 0, .string ⟨#[]⟩, .string ⟨#[]⟩, .slice none 0 0], .int .i64 4]) ∧ Below w.heap.size w w'
theorem JoinPost.after {w w0 w9 : World} {la lb : List Val} {p : Option Addr} {c : Nat} {w3 : World} (hh : HeldF w3 (fun g => w0.heap.size ≤ g ∧ g < w3.heap.size) (.slice p (la.length + lb.length) c) (la ++ lb)) {e : Nat} (on : Only e w3 w9) (he : e < w0.heap.size) (h0 : w.heap.size ≤ w0.heap.size) :
    HeldF w9 (fun g => w.heap.size ≤ g ∧ g < w9.heap.size) (.slice p (la.length + lb.length) c) (la ++ lb) :=
  hh.stays (fun g hg => ⟨⟨by omega, Nat.lt_of_lt_of_le hg.2 on.size⟩, on.block g hg.2 (by omega)⟩) (la ++ lb)

set_option maxRecDepth 20000 in
set_option maxHeartbeats 6400000 in
theorem reckonC (la lb : List Val) (p : Option Addr) (cap : Nat) (p2 : Option Addr) (cap2 : Nat) (w : World) (hl : Held w (.slice p la.length cap) la) (hl2 : Held w (.slice p2 lb.length cap2) lb) (hs : la.length + lb.length ≤ 4096) :
    Calls Tryz.prog 60 #[.int .i64 0, .int .i64 17, .agg #[.int .i64 5, .bool false, .int .i64 0, .string ⟨#[]⟩, .string ⟨#[]⟩, .slice p la.length cap], .agg #[.int .i64 5, .bool false, .int .i64 0, .string ⟨#[]⟩, .string ⟨#[]⟩, .slice p2 lb.length cap2]] w (JoinPost w la lb) := by
  obtain ⟨W0, hW0⟩ : ∃ W0, W0 = ((w.alloc (.cells #[.int .i64 5, .bool false, .int .i64 0, .string ⟨#[]⟩, .string ⟨#[]⟩, .slice p la.length cap] 28)).alloc (.cells #[.int .i64 5, .bool false, .int .i64 0, .string ⟨#[]⟩, .string ⟨#[]⟩, .slice p2 lb.length cap2] 28)).alloc (.cells #[.int .i64 0, .bool false, .int .i64 0, .string ⟨#[]⟩, .string ⟨#[]⟩, .slice none 0 0] 28) := ⟨_, rfl⟩
  have S4 : Six W0 w.heap.size 5 false 0 ⟨#[]⟩ ⟨#[]⟩ p la.length cap := by rw [hW0]; exact ((six_new _ rfl).alloc _).alloc _
  have S5 : Six W0 (w.heap.size + 1) 5 false 0 ⟨#[]⟩ ⟨#[]⟩ p2 lb.length cap2 := by rw [hW0]; exact (six_new _ (by simp)).alloc _
  have S6 : Six W0 (w.heap.size + 2) 0 false 0 ⟨#[]⟩ ⟨#[]⟩ none 0 0 := by rw [hW0]; exact six_new _ (by simp)
  have b0 : Below w.heap.size w W0 := by rw [hW0]; exact below3 _ _ _ _
  have z0 := S6.lt
  have H0 := Lib.hid hW0
  have f0 := S4.c0
  have g0 := S5.c0
  have f5 := S4.c5
  have g5 := S5.c5
  have hB4 : ∀ W, Calls Tryz.prog 53 #[.int .i64 4, .agg #[.int .i64 5, .bool false, .int .i64 0, .string ⟨#[]⟩, .string ⟨#[]⟩, .slice p la.length cap], .agg #[.int .i64 5, .bool false, .int .i64 0, .string ⟨#[]⟩, .string ⟨#[]⟩, .slice p2 lb.length cap2]] W fun e w' => e = .returned (.bool false) ∧ Below W.heap.size W w' := fun W => bothAreAt 4 5 false 0 ⟨#[]⟩ ⟨#[]⟩ (.slice p la.length cap) 5 false 0 ⟨#[]⟩ ⟨#[]⟩ (.slice p2 lb.length cap2) W
  have hB5 : ∀ W, Calls Tryz.prog 53 #[.int .i64 5, .agg #[.int .i64 5, .bool false, .int .i64 0, .string ⟨#[]⟩, .string ⟨#[]⟩, .slice p la.length cap], .agg #[.int .i64 5, .bool false, .int .i64 0, .string ⟨#[]⟩, .string ⟨#[]⟩, .slice p2 lb.length cap2]] W fun e w' => e = .returned (.bool true) ∧ Below W.heap.size W w' := fun W => bothAreAt 5 5 false 0 ⟨#[]⟩ ⟨#[]⟩ (.slice p la.length cap) 5 false 0 ⟨#[]⟩ ⟨#[]⟩ (.slice p2 lb.length cap2) W
  have hj := fun W (h : Below w.heap.size w W) => joinAt la lb p cap p2 cap2 W (Held.below la hl h) (Held.below lb hl2 h) hs
  clear hl hl2 hW0
  go_enter Tryz.func60, Tryz.ntmps60
  go_wp2_with (first
    | ((try rw [← H0.out]); (with_reducible refine wpList_load6 (.tmp 6) w.heap.size S4 ?_ ?_ ?_ ?_); rfl; rfl; rfl)
    | ((try rw [← H0.out]); (with_reducible refine wpList_load6g (.tmp 6) w.heap.size S4 ?_ ?_ ?_ ?_); rfl; rfl; rfl)
    | ((try rw [← H0.out]); (with_reducible refine wpList_load6 (.tmp 7) (w.heap.size + 1) S5 ?_ ?_ ?_ ?_); rfl; rfl; rfl)
    | ((try rw [← H0.out]); (with_reducible refine wpList_load6g (.tmp 7) (w.heap.size + 1) S5 ?_ ?_ ?_ ?_); rfl; rfl; rfl)
    | (go_at_call 53; (try rw [← H0.out]); (with_reducible refine (hB4 _).mono ?_); rintro e w' ⟨rfl, hb⟩; replace S4 := S4.below hb; replace S5 := S5.below hb; replace S6 := S6.below hb; replace b0 := below_any b0 hb b0.size; have z0 := S6.lt; have f0 := S4.c0; have g0 := S5.c0; have f5 := S4.c5; have g5 := S5.c5; clear hb)
    | (go_at_call 53; (try rw [← H0.out]); (with_reducible refine (hB5 _).mono ?_); rintro e w' ⟨rfl, hb⟩; replace S4 := S4.below hb; replace S5 := S5.below hb; replace S6 := S6.below hb; replace b0 := below_any b0 hb b0.size; have z0 := S6.lt; have f0 := S4.c0; have g0 := S5.c0; have f5 := S4.c5; have g5 := S5.c5; clear hb)
    | (go_at_call 100; (with_reducible refine (hj _ b0).mono ?_); rintro e w' ⟨p9, c9, rfl, hq9, hb⟩; have HQ := Lib.hid hq9; have Z9 := Lib.hid z0; have B9 := Lib.hid b0.size; clear hq9; replace S6 := S6.below hb; replace b0 := below_any b0 hb b0.size; clear hb z0)
    | ((with_reducible refine wpList_store6 (k' := 5) (b' := false) (n' := 0) (t' := ⟨#[]⟩) (x' := ⟨#[]⟩) (p' := p9) (len' := la.length + lb.length) (cap' := c9) (.tmp 8) (.tmp 43) (w.heap.size + 2) S6 ?_ ?_ ?_ ?_ ?_); rfl; rfl; rfl; rfl; intro w9 on9 S9))
  refine bodyPost_ret (results_six_tmp (p := 8) (q := 9) Tryz.results60 _ (.int .i64 0) rfl rfl S9) rfl ⟨p9, c9, rfl, JoinPost.after HQ.out on9 Z9.out B9.out, below_only b0 on9 (by omega) b0.size⟩

set_option maxRecDepth 20000 in
set_option maxHeartbeats 6400000 in
theorem reckonS (la lb : List Val) (p : Option Addr) (cap : Nat) (p2 : Option Addr) (cap2 : Nat) (w : World) :
    Calls Tryz.prog 60 #[.int .i64 1, .int .i64 17, .agg #[.int .i64 5, .bool false, .int .i64 0, .string ⟨#[]⟩, .string ⟨#[]⟩, .slice p la.length cap], .agg #[.int .i64 5, .bool false, .int .i64 0, .string ⟨#[]⟩, .string ⟨#[]⟩, .slice p2 lb.length cap2]] w (ErrPost w) := by
  obtain ⟨W0, hW0⟩ : ∃ W0, W0 = ((w.alloc (.cells #[.int .i64 5, .bool false, .int .i64 0, .string ⟨#[]⟩, .string ⟨#[]⟩, .slice p la.length cap] 28)).alloc (.cells #[.int .i64 5, .bool false, .int .i64 0, .string ⟨#[]⟩, .string ⟨#[]⟩, .slice p2 lb.length cap2] 28)).alloc (.cells #[.int .i64 0, .bool false, .int .i64 0, .string ⟨#[]⟩, .string ⟨#[]⟩, .slice none 0 0] 28) := ⟨_, rfl⟩
  have S4 : Six W0 w.heap.size 5 false 0 ⟨#[]⟩ ⟨#[]⟩ p la.length cap := by rw [hW0]; exact ((six_new _ rfl).alloc _).alloc _
  have S5 : Six W0 (w.heap.size + 1) 5 false 0 ⟨#[]⟩ ⟨#[]⟩ p2 lb.length cap2 := by rw [hW0]; exact (six_new _ (by simp)).alloc _
  have S6 : Six W0 (w.heap.size + 2) 0 false 0 ⟨#[]⟩ ⟨#[]⟩ none 0 0 := by rw [hW0]; exact six_new _ (by simp)
  have b0 : Below w.heap.size w W0 := by rw [hW0]; exact below3 _ _ _ _
  have z0 := S6.lt
  have H0 := Lib.hid hW0
  have f0 := S4.c0
  have g0 := S5.c0
  have f5 := S4.c5
  have g5 := S5.c5
  have hN : ∀ W, Calls Tryz.prog 50 #[.agg #[.int .i64 5, .bool false, .int .i64 0, .string ⟨#[]⟩, .string ⟨#[]⟩, .slice p la.length cap]] W fun e w' => e = .returned (.bool false) ∧ Below W.heap.size W w' := fun W => isNumberAt 5 false 0 ⟨#[]⟩ ⟨#[]⟩ (.slice p la.length cap) W
  clear hW0
  go_enter Tryz.func60, Tryz.ntmps60
  go_wp2_with (first
    | ((try rw [← H0.out]); (with_reducible refine wpList_load6 (.tmp 6) w.heap.size S4 ?_ ?_ ?_ ?_); rfl; rfl; rfl)
    | ((try rw [← H0.out]); (with_reducible refine wpList_load6g (.tmp 6) w.heap.size S4 ?_ ?_ ?_ ?_); rfl; rfl; rfl)
    | ((try rw [← H0.out]); (with_reducible refine wpList_load6 (.tmp 7) (w.heap.size + 1) S5 ?_ ?_ ?_ ?_); rfl; rfl; rfl)
    | ((try rw [← H0.out]); (with_reducible refine wpList_load6g (.tmp 7) (w.heap.size + 1) S5 ?_ ?_ ?_ ?_); rfl; rfl; rfl)
    | (go_at_call 50; (try rw [← H0.out]); (with_reducible refine (hN _).mono ?_); rintro e w' ⟨rfl, hb⟩; replace S4 := S4.below hb; replace S5 := S5.below hb; replace S6 := S6.below hb; replace b0 := below_any b0 hb b0.size; have z0 := S6.lt; have f0 := S4.c0; have g0 := S5.c0; have f5 := S4.c5; have g5 := S5.c5; clear hb)
    | ((with_reducible refine wpList_store6 (k' := 0) (b' := false) (n' := 0) (t' := ⟨#[]⟩) (x' := ⟨#[]⟩) (p' := none) (len' := 0) (cap' := 0) (.tmp 8) (.tmp 54) (w.heap.size + 2) S6 ?_ ?_ ?_ ?_ ?_); rfl; rfl; rfl; rfl; intro w9 on9 S9))
  exact bodyPost_ret (results_six_tmp (p := 8) (q := 9) Tryz.results60 _ (.int .i64 4) rfl rfl S9) rfl ⟨rfl, below_only b0 on9 (by omega) b0.size⟩

set_option maxRecDepth 20000 in
set_option maxHeartbeats 6400000 in
theorem arithC (la lb : List Val) (p : Option Addr) (cap : Nat) (p2 : Option Addr) (cap2 : Nat) (w : World) (hG : Gd w) (hl : Held w (.slice p la.length cap) la) (hl2 : Held w (.slice p2 lb.length cap2) lb) (hs : la.length + lb.length ≤ 4096) (m1 : mayP (.mk 5 false 0 ⟨#[]⟩ ⟨#[]⟩ la) 0 = true) (m2 : mayP (.mk 5 false 0 ⟨#[]⟩ ⟨#[]⟩ lb) 0 = true) :
    Calls Tryz.prog 25 #[.int .i64 0, .int .i64 17, .agg #[.int .i64 5, .bool false, .int .i64 0, .string ⟨#[]⟩, .string ⟨#[]⟩, .slice p la.length cap], .agg #[.int .i64 5, .bool false, .int .i64 0, .string ⟨#[]⟩, .string ⟨#[]⟩, .slice p2 lb.length cap2]] w (JoinPost w la lb) := by
  obtain ⟨W0, hW0⟩ : ∃ W0, W0 = ((w.alloc (.cells #[.int .i64 5, .bool false, .int .i64 0, .string ⟨#[]⟩, .string ⟨#[]⟩, .slice p la.length cap] 28)).alloc (.cells #[.int .i64 5, .bool false, .int .i64 0, .string ⟨#[]⟩, .string ⟨#[]⟩, .slice p2 lb.length cap2] 28)).alloc (.cells #[.int .i64 0, .bool false, .int .i64 0, .string ⟨#[]⟩, .string ⟨#[]⟩, .slice none 0 0] 28) := ⟨_, rfl⟩
  have S4 : Six W0 w.heap.size 5 false 0 ⟨#[]⟩ ⟨#[]⟩ p la.length cap := by rw [hW0]; exact ((six_new _ rfl).alloc _).alloc _
  have S5 : Six W0 (w.heap.size + 1) 5 false 0 ⟨#[]⟩ ⟨#[]⟩ p2 lb.length cap2 := by rw [hW0]; exact (six_new _ (by simp)).alloc _
  have S6 : Six W0 (w.heap.size + 2) 0 false 0 ⟨#[]⟩ ⟨#[]⟩ none 0 0 := by rw [hW0]; exact six_new _ (by simp)
  have b0 : Below w.heap.size w W0 := by rw [hW0]; exact below3 _ _ _ _
  have z0 := S6.lt
  have H0 := Lib.hid hW0
  have f0 := S4.c0
  have g0 := S5.c0
  have f5 := S4.c5
  have g5 := S5.c5
  have hc1 := fun W (h : Below w.heap.size w W) => checkAtV (.mk 5 false 0 ⟨#[]⟩ ⟨#[]⟩ la) 5 false 0 ⟨#[]⟩ ⟨#[]⟩ la (.slice p la.length cap) W rfl (hG.below h) (by decide) (by decide) (Held.below la hl h)
  rw [m1] at hc1
  have hc2 := fun W (h : Below w.heap.size w W) => checkAtV (.mk 5 false 0 ⟨#[]⟩ ⟨#[]⟩ lb) 5 false 0 ⟨#[]⟩ ⟨#[]⟩ lb (.slice p2 lb.length cap2) W rfl (hG.below h) (by decide) (by decide) (Held.below lb hl2 h)
  rw [m2] at hc2
  have hj := fun W (h : Below w.heap.size w W) => reckonC la lb p cap p2 cap2 W (Held.below la hl h) (Held.below lb hl2 h) hs
  clear hl hl2 hW0 hG m1 m2
  go_enter Tryz.func25, Tryz.ntmps25
  go_wp2_with (first
    | ((try rw [← H0.out]); (with_reducible refine wpList_load6 (.tmp 6) w.heap.size S4 ?_ ?_ ?_ ?_); rfl; rfl; rfl)
    | ((try rw [← H0.out]); (with_reducible refine wpList_load6g (.tmp 6) w.heap.size S4 ?_ ?_ ?_ ?_); rfl; rfl; rfl)
    | ((try rw [← H0.out]); (with_reducible refine wpList_load6 (.tmp 7) (w.heap.size + 1) S5 ?_ ?_ ?_ ?_); rfl; rfl; rfl)
    | ((try rw [← H0.out]); (with_reducible refine wpList_load6g (.tmp 7) (w.heap.size + 1) S5 ?_ ?_ ?_ ?_); rfl; rfl; rfl)
    | (go_at_call 59; (with_reducible refine (opYes _).mono ?_); rintro e w' ⟨rfl, rfl⟩)
    | (go_at_call 13; (try rw [← H0.out]); (with_reducible refine (hc1 _ b0).mono ?_); rintro e w' ⟨rfl, hb⟩; replace S4 := S4.below hb; replace S5 := S5.below hb; replace S6 := S6.below hb; replace b0 := below_any b0 hb b0.size; have z0 := S6.lt; have f0 := S4.c0; have g0 := S5.c0; have f5 := S4.c5; have g5 := S5.c5; clear hb)
    | (go_at_call 13; (try rw [← H0.out]); (with_reducible refine (hc2 _ b0).mono ?_); rintro e w' ⟨rfl, hb⟩; replace S4 := S4.below hb; replace S5 := S5.below hb; replace S6 := S6.below hb; replace b0 := below_any b0 hb b0.size; have z0 := S6.lt; have f0 := S4.c0; have g0 := S5.c0; have f5 := S4.c5; have g5 := S5.c5; clear hb)
    | (go_at_call 60; (with_reducible refine (hj _ b0).mono ?_); rintro e w' ⟨p9, c9, rfl, hq9, hb⟩; have HQ := Lib.hid hq9; have Z9 := Lib.hid z0; have B9 := Lib.hid b0.size; clear hq9; replace S6 := S6.below hb; replace b0 := below_any b0 hb b0.size; clear hb z0)
    | ((with_reducible refine wpList_store6 (k' := 5) (b' := false) (n' := 0) (t' := ⟨#[]⟩) (x' := ⟨#[]⟩) (p' := p9) (len' := la.length + lb.length) (cap' := c9) (.tmp 8) (.tmp 39) (w.heap.size + 2) S6 ?_ ?_ ?_ ?_ ?_); rfl; rfl; rfl; rfl; intro w9 on9 S9))
  refine bodyPost_ret (results_six_tmp (p := 8) (q := 9) Tryz.results25 _ (.int .i64 0) rfl rfl S9) rfl ⟨p9, c9, rfl, JoinPost.after HQ.out on9 Z9.out B9.out, below_only b0 on9 (by omega) b0.size⟩

set_option maxRecDepth 20000 in
set_option maxHeartbeats 6400000 in
theorem arithS (la lb : List Val) (p : Option Addr) (cap : Nat) (p2 : Option Addr) (cap2 : Nat) (w : World) (hG : Gd w) (hl : Held w (.slice p la.length cap) la) (hl2 : Held w (.slice p2 lb.length cap2) lb) (m1 : mayP (.mk 5 false 0 ⟨#[]⟩ ⟨#[]⟩ la) 0 = true) (m2 : mayP (.mk 5 false 0 ⟨#[]⟩ ⟨#[]⟩ lb) 0 = true) :
    Calls Tryz.prog 25 #[.int .i64 1, .int .i64 17, .agg #[.int .i64 5, .bool false, .int .i64 0, .string ⟨#[]⟩, .string ⟨#[]⟩, .slice p la.length cap], .agg #[.int .i64 5, .bool false, .int .i64 0, .string ⟨#[]⟩, .string ⟨#[]⟩, .slice p2 lb.length cap2]] w (ErrPost w) := by
  obtain ⟨W0, hW0⟩ : ∃ W0, W0 = ((w.alloc (.cells #[.int .i64 5, .bool false, .int .i64 0, .string ⟨#[]⟩, .string ⟨#[]⟩, .slice p la.length cap] 28)).alloc (.cells #[.int .i64 5, .bool false, .int .i64 0, .string ⟨#[]⟩, .string ⟨#[]⟩, .slice p2 lb.length cap2] 28)).alloc (.cells #[.int .i64 0, .bool false, .int .i64 0, .string ⟨#[]⟩, .string ⟨#[]⟩, .slice none 0 0] 28) := ⟨_, rfl⟩
  have S4 : Six W0 w.heap.size 5 false 0 ⟨#[]⟩ ⟨#[]⟩ p la.length cap := by rw [hW0]; exact ((six_new _ rfl).alloc _).alloc _
  have S5 : Six W0 (w.heap.size + 1) 5 false 0 ⟨#[]⟩ ⟨#[]⟩ p2 lb.length cap2 := by rw [hW0]; exact (six_new _ (by simp)).alloc _
  have S6 : Six W0 (w.heap.size + 2) 0 false 0 ⟨#[]⟩ ⟨#[]⟩ none 0 0 := by rw [hW0]; exact six_new _ (by simp)
  have b0 : Below w.heap.size w W0 := by rw [hW0]; exact below3 _ _ _ _
  have z0 := S6.lt
  have H0 := Lib.hid hW0
  have f0 := S4.c0
  have g0 := S5.c0
  have f5 := S4.c5
  have g5 := S5.c5
  have hc1 := fun W (h : Below w.heap.size w W) => checkAtV (.mk 5 false 0 ⟨#[]⟩ ⟨#[]⟩ la) 5 false 0 ⟨#[]⟩ ⟨#[]⟩ la (.slice p la.length cap) W rfl (hG.below h) (by decide) (by decide) (Held.below la hl h)
  rw [m1] at hc1
  have hc2 := fun W (h : Below w.heap.size w W) => checkAtV (.mk 5 false 0 ⟨#[]⟩ ⟨#[]⟩ lb) 5 false 0 ⟨#[]⟩ ⟨#[]⟩ lb (.slice p2 lb.length cap2) W rfl (hG.below h) (by decide) (by decide) (Held.below lb hl2 h)
  rw [m2] at hc2
  have hj := fun W => reckonS la lb p cap p2 cap2 W
  clear hl hl2 hW0 hG m1 m2
  go_enter Tryz.func25, Tryz.ntmps25
  go_wp2_with (first
    | ((try rw [← H0.out]); (with_reducible refine wpList_load6 (.tmp 6) w.heap.size S4 ?_ ?_ ?_ ?_); rfl; rfl; rfl)
    | ((try rw [← H0.out]); (with_reducible refine wpList_load6g (.tmp 6) w.heap.size S4 ?_ ?_ ?_ ?_); rfl; rfl; rfl)
    | ((try rw [← H0.out]); (with_reducible refine wpList_load6 (.tmp 7) (w.heap.size + 1) S5 ?_ ?_ ?_ ?_); rfl; rfl; rfl)
    | ((try rw [← H0.out]); (with_reducible refine wpList_load6g (.tmp 7) (w.heap.size + 1) S5 ?_ ?_ ?_ ?_); rfl; rfl; rfl)
    | (go_at_call 59; (with_reducible refine (opYes _).mono ?_); rintro e w' ⟨rfl, rfl⟩)
    | (go_at_call 13; (try rw [← H0.out]); (with_reducible refine (hc1 _ b0).mono ?_); rintro e w' ⟨rfl, hb⟩; replace S4 := S4.below hb; replace S5 := S5.below hb; replace S6 := S6.below hb; replace b0 := below_any b0 hb b0.size; have z0 := S6.lt; have f0 := S4.c0; have g0 := S5.c0; have f5 := S4.c5; have g5 := S5.c5; clear hb)
    | (go_at_call 13; (try rw [← H0.out]); (with_reducible refine (hc2 _ b0).mono ?_); rintro e w' ⟨rfl, hb⟩; replace S4 := S4.below hb; replace S5 := S5.below hb; replace S6 := S6.below hb; replace b0 := below_any b0 hb b0.size; have z0 := S6.lt; have f0 := S4.c0; have g0 := S5.c0; have f5 := S4.c5; have g5 := S5.c5; clear hb)
    | (go_at_call 60; (with_reducible refine (hj _).mono ?_); rintro e w' ⟨rfl, hb⟩; replace S6 := S6.below hb; replace b0 := below_any b0 hb b0.size; clear hb)
    | ((with_reducible refine wpList_store6 (k' := 0) (b' := false) (n' := 0) (t' := ⟨#[]⟩) (x' := ⟨#[]⟩) (p' := none) (len' := 0) (cap' := 0) (.tmp 8) (.tmp 39) (w.heap.size + 2) S6 ?_ ?_ ?_ ?_ ?_); rfl; rfl; rfl; rfl; intro w9 on9 S9))
  exact bodyPost_ret (results_six_tmp (p := 8) (q := 9) Tryz.results25 _ (.int .i64 4) rfl rfl S9) rfl ⟨rfl, below_only b0 on9 (by omega) b0.size⟩
end Go.Proofs.YtoifjjgakblhhaaGreatDoor
