/- Texts of one kind, one behind the other: each says ahead of itself what it shows. -/
import Derived.Test.YtoifjjgakblhhaaGreatDoorHaq
import Derived.Test.YtoifjjgakblhhaaGreatDoorHal
import Derived.Test.YtoifjjgakblhhaaGreatDoorHau
import Derived.Test.YtoifjjgakblhhaaGreatDoorHba
import Derived.Deep.QuietTactic
import Derived.BigQuiet
/- What Arith tells of two lists. -/
namespace Go.Proofs.YtoifjjgakblhhaaGreatDoor
open Go.RowKit

theorem opYes (w : World) : Calls Tryz.prog 59 #[.int .i64 17] w fun e w' => e = .returned (.bool true) ∧ w' = w := by
  go_enter Tryz.func59, Tryz.ntmps59
  go_wp2_with fail
  go_ret
  exact ⟨rfl, rfl⟩
/-- What is refused. -/
def ErrPost (w : World) (e : Ending) (w' : World) : Prop := e = .returned (.tuple #[.agg #[.int .i64 0, .bool false, .int .i64 0, .string ⟨#[]⟩, .string ⟨#[]⟩, .slice none 0 0], .int .i64 4]) ∧ Below w.heap.size w w'
theorem JoinPost.after {w w0 w9 : World} {la lb : List Val} {p : Option Addr} {c : Nat} {w3 : World} (hh : HeldF w3 (fun g => w0.heap.size ≤ g ∧ g < w3.heap.size) (.slice p (la.length + lb.length) c) (la ++ lb)) {e : Nat} (on : Only e w3 w9) (he : e < w0.heap.size) (h0 : w.heap.size ≤ w0.heap.size) :
    HeldF w9 (fun g => w.heap.size ≤ g ∧ g < w9.heap.size) (.slice p (la.length + lb.length) c) (la ++ lb) :=
  hh.stays (fun g hg => ⟨⟨by omega, Nat.lt_of_lt_of_le hg.2 on.size⟩, on.block g hg.2 (by omega)⟩) (la ++ lb)

set_option maxRecDepth 20000 in
set_option maxHeartbeats 6400000 in
theorem reckonC (la lb : List Val) (p : Option Addr) (cap : Nat) (p2 : Option Addr) (cap2 : Nat) (w : World) (hl : Held w (.slice p la.length cap) la) (hl2 : Held w (.slice p2 lb.length cap2) lb) (hs : la.length + lb.length ≤ 4096) :
    Calls Tryz.prog 60 #[.int .i64 0, .int .i64 17, .agg #[.int .i64 5, .bool false, .int .i64 0, .string ⟨#[]⟩, .string ⟨#[]⟩, .slice p la.length cap], .agg #[.int .i64 5, .bool false, .int .i64 0, .string ⟨#[]⟩, .string ⟨#[]⟩, .slice p2 lb.length cap2]] w (JoinPost w la lb) := by
  obtain ⟨W0, hW0⟩ : ∃ W0, W0 = ((w.alloc (.cells #[.int .i64 5, .bool false, .int .i64 0, .string ⟨#[]⟩, .string ⟨#[]⟩, .slice p la.length cap] 28)).alloc (.cells #[.int .i64 5, .bool false, .int .i64 0, .string ⟨#[]⟩, .string ⟨#[]⟩, .slice p2 lb.length cap2] 28)).alloc (.cells #[.int .i64 0, .bool false, .int .i64 0, .string ⟨#[]⟩, .string ⟨#[]⟩, .slice none 0 0] 28) := ⟨_, rfl⟩
  have S4 : Six W0 w.heap.size 5 false 0 ⟨#[]⟩ ⟨#[]⟩ p la.length cap := by rw [hW0]; exact ((six_new _ rfl).alloc _).alloc _
  have S5 : Six W0 (w.heap.size + 1) 5 false 0 ⟨#[]⟩ ⟨#[]⟩ p2 lb.length cap2 := by rw [hW0]; exact (six_new _ (by simp)).alloc _
  have S6 : Six W0 (w.heap.size + 2) 0 false 0 ⟨#[]⟩ ⟨#[]⟩ none 0 0 := by rw [hW0]; exact six_new _ (by simp)
  have b0 : Below w.heap.size w W0 := by rw [hW0]; exact below3 _ _ _ _
  have z0 := S6.lt
  have H0 := Lib.hid hW0
  have f0 := S4.c0
  have g0 := S5.c0
  have f5 := S4.c5
  have g5 := S5.c5
  have hB4 : ∀ W, Calls Tryz.prog 53 #[.int .i64 4, .agg #[.int .i64 5, .bool false, .int .i64 0, .string ⟨#[]⟩, .string ⟨#[]⟩, .slice p la.length cap], .agg #[.int .i64 5, .bool false, .int .i64 0, .string ⟨#[]⟩, .string ⟨#[]⟩, .slice p2 lb.length cap2]] W fun e w' => e = .returned (.bool false) ∧ Below W.heap.size W w' := fun W => bothAreAt 4 5 false 0 ⟨#[]⟩ ⟨#[]⟩ (.slice p la.length cap) 5 false 0 ⟨#[]⟩ ⟨#[]⟩ (.slice p2 lb.length cap2) W
  have hB5 : ∀ W, Calls Tryz.prog 53 #[.int .i64 5, .agg #[.int .i64 5, .bool false, .int .i64 0, .string ⟨#[]⟩, .string ⟨#[]⟩, .slice p la.length cap], .agg #[.int .i64 5, .bool false, .int .i64 0, .string ⟨#[]⟩, .string ⟨#[]⟩, .slice p2 lb.length cap2]] W fun e w' => e = .returned (.bool true) ∧ Below W.heap.size W w' := fun W => bothAreAt 5 5 false 0 ⟨#[]⟩ ⟨#[]⟩ (.slice p la.length cap) 5 false 0 ⟨#[]⟩ ⟨#[]⟩ (.slice p2 lb.length cap2) W
  have hj := fun W (h : Below w.heap.size w W) => joinAt la lb p cap p2 cap2 W (Held.below la hl h) (Held.below lb hl2 h) hs
  clear hl hl2 hW0
  go_enter Tryz.func60, Tryz.ntmps60
  go_wp2_with (first
    | ((try rw [← H0.out]); (with_reducible refine wpList_load6 (.tmp 6) w.heap.size S4 ?_ ?_ ?_ ?_); rfl; rfl; rfl)
    | ((try rw [← H0.out]); (with_reducible refine wpList_load6g (.tmp 6) w.heap.size S4 ?_ ?_ ?_ ?_); rfl; rfl; rfl)
    | ((try rw [← H0.out]); (with_reducible refine wpList_load6 (.tmp 7) (w.heap.size + 1) S5 ?_ ?_ ?_ ?_); rfl; rfl; rfl)
    | ((try rw [← H0.out]); (with_reducible refine wpList_load6g (.tmp 7) (w.heap.size + 1) S5 ?_ ?_ ?_ ?_); rfl; rfl; rfl)
    | (go_at_call 53; (try rw [← H0.out]); (with_reducible refine (hB4 _).mono ?_); rintro e w' ⟨rfl, hb⟩; replace S4 := S4.below hb; replace S5 := S5.below hb; replace S6 := S6.below hb; replace b0 := below_any b0 hb b0.size; have z0 := S6.lt; have f0 := S4.c0; have g0 := S5.c0; have f5 := S4.c5; have g5 := S5.c5; clear hb)
    | (go_at_call 53; (try rw [← H0.out]); (with_reducible refine (hB5 _).mono ?_); rintro e w' ⟨rfl, hb⟩; replace S4 := S4.below hb; replace S5 := S5.below hb; replace S6 := S6.below hb; replace b0 := below_any b0 hb b0.size; have z0 := S6.lt; have f0 := S4.c0; have g0 := S5.c0; have f5 := S4.c5; have g5 := S5.c5; clear hb)
    | (go_at_call 100; (with_reducible refine (hj _ b0).mono ?_); rintro e w' ⟨p9, c9, rfl, hq9, hb⟩; have HQ := Lib.hid hq9; have Z9 := Lib.hid z0; have B9 := Lib.hid b0.size; clear hq9; replace S6 := S6.below hb; replace b0 := below_any b0 hb b0.size; clear hb z0)
    | ((with_reducible refine wpList_store6 (k' := 5) (b' := false) (n' := 0) (t' := ⟨#[]⟩) (x' := ⟨#[]⟩) (p' := p9) (len' := la.length + lb.length) (cap' := c9) (.tmp 8) (.tmp 43) (w.heap.size + 2) S6 ?_ ?_ ?_ ?_ ?_); rfl; rfl; rfl; rfl; intro w9 on9 S9))
  refine bodyPost_ret (results_six_tmp (p := 8) (q := 9) Tryz.results60 _ (.int .i64 0) rfl rfl S9) rfl ⟨p9, c9, rfl, JoinPost.after HQ.out on9 Z9.out B9.out, below_only b0 on9 (by omega) b0.size⟩

set_option maxRecDepth 20000 in
set_option maxHeartbeats 6400000 in
theorem reckonS (la lb : List Val) (p : Option Addr) (cap : Nat) (p2 : Option Addr) (cap2 : Nat) (w : World) :
    Calls Tryz.prog 60 #[.int .i64 1, .int .i64 17, .agg #[.int .i64 5, .bool false, .int .i64 0, .string ⟨#[]⟩, .string ⟨#[]⟩, .slice p la.length cap], .agg #[.int .i64 5, .bool false, .int .i64 0, .string ⟨#[]⟩, .string ⟨#[]⟩, .slice p2 lb.length cap2]] w (ErrPost w) := by
  obtain ⟨W0, hW0⟩ : ∃ W0, W0 = ((w.alloc (.cells #[.int .i64 5, .bool false, .int .i64 0, .string ⟨#[]⟩, .string ⟨#[]⟩, .slice p la.length cap] 28)).alloc (.cells #[.int .i64 5, .bool false, .int .i64 0, .string ⟨#[]⟩, .string ⟨#[]⟩, .slice p2 lb.length cap2] 28)).alloc (.cells #[.int .i64 0, .bool false, .int .i64 0, .string ⟨#[]⟩, .string ⟨#[]⟩, .slice none 0 0] 28) := ⟨_, rfl⟩
  have S4 : Six W0 w.heap.size 5 false 0 ⟨#[]⟩ ⟨#[]⟩ p la.length cap := by rw [hW0]; exact ((six_new _ rfl).alloc _).alloc _
  have S5 : Six W0 (w.heap.size + 1) 5 false 0 ⟨#[]⟩ ⟨#[]⟩ p2 lb.length cap2 := by rw [hW0]; exact (six_new _ (by simp)).alloc _
  have S6 : Six W0 (w.heap.size + 2) 0 false 0 ⟨#[]⟩ ⟨#[]⟩ none 0 0 := by rw [hW0]; exact six_new _ (by simp)
  have b0 : Below w.heap.size w W0 := by rw [hW0]; exact below3 _ _ _ _
  have z0 := S6.lt
  have H0 := Lib.hid hW0
  have f0 := S4.c0
  have g0 := S5.c0
  have f5 := S4.c5
  have g5 := S5.c5
  have hN : ∀ W, Calls Tryz.prog 50 #[.agg #[.int .i64 5, .bool false, .int .i64 0, .string ⟨#[]⟩, .string ⟨#[]⟩, .slice p la.length cap]] W fun e w' => e = .returned (.bool false) ∧ Below W.heap.size W w' := fun W => isNumberAt 5 false 0 ⟨#[]⟩ ⟨#[]⟩ (.slice p la.length cap) W
  clear hW0
  go_enter Tryz.func60, Tryz.ntmps60
  go_wp2_with (first
    | ((try rw [← H0.out]); (with_reducible refine wpList_load6 (.tmp 6) w.heap.size S4 ?_ ?_ ?_ ?_); rfl; rfl; rfl)
    | ((try rw [← H0.out]); (with_reducible refine wpList_load6g (.tmp 6) w.heap.size S4 ?_ ?_ ?_ ?_); rfl; rfl; rfl)
    | ((try rw [← H0.out]); (with_reducible refine wpList_load6 (.tmp 7) (w.heap.size + 1) S5 ?_ ?_ ?_ ?_); rfl; rfl; rfl)
    | ((try rw [← H0.out]); (with_reducible refine wpList_load6g (.tmp 7) (w.heap.size + 1) S5 ?_ ?_ ?_ ?_); rfl; rfl; rfl)
    | (go_at_call 50; (try rw [← H0.out]); (with_reducible refine (hN _).mono ?_); rintro e w' ⟨rfl, hb⟩; replace S4 := S4.below hb; replace S5 := S5.below hb; replace S6 := S6.below hb; replace b0 := below_any b0 hb b0.size; have z0 := S6.lt; have f0 := S4.c0; have g0 := S5.c0; have f5 := S4.c5; have g5 := S5.c5; clear hb)
    | ((with_reducible refine wpList_store6 (k' := 0) (b' := false) (n' := 0) (t' := ⟨#[]⟩) (x' := ⟨#[]⟩) (p' := none) (len' := 0) (cap' := 0) (.tmp 8) (.tmp 54) (w.heap.size + 2) S6 ?_ ?_ ?_ ?_ ?_); rfl; rfl; rfl; rfl; intro w9 on9 S9))
  exact bodyPost_ret (results_six_tmp (p := 8) (q := 9) Tryz.results60 _ (.int .i64 4) rfl rfl S9) rfl ⟨rfl, below_only b0 on9 (by omega) b0.size⟩

set_option maxRecDepth 20000 in
set_option maxHeartbeats 6400000 in
theorem arithC (la lb : List Val) (p : Option Addr) (cap : Nat) (p2 : Option Addr) (cap2 : Nat) (w : World) (hG : Gd w) (hl : Held w (.slice p la.length cap) la) (hl2 : Held w (.slice p2 lb.length cap2) lb) (hs : la.length + lb.length ≤ 4096) (m1 : mayP (.mk 5 false 0 ⟨#[]⟩ ⟨#[]⟩ la) 0 = true) (m2 : mayP (.mk 5 false 0 ⟨#[]⟩ ⟨#[]⟩ lb) 0 = true) :
    Calls Tryz.prog 25 #[.int .i64 0, .int .i64 17, .agg #[.int .i64 5, .bool false, .int .i64 0, .string ⟨#[]⟩, .string ⟨#[]⟩, .slice p la.length cap], .agg #[.int .i64 5, .bool false, .int .i64 0, .string ⟨#[]⟩, .string ⟨#[]⟩, .slice p2 lb.length cap2]] w (JoinPost w la lb) := by
  obtain ⟨W0, hW0⟩ : ∃ W0, W0 = ((w.alloc (.cells #[.int .i64 5, .bool false, .int .i64 0, .string ⟨#[]⟩, .string ⟨#[]⟩, .slice p la.length cap] 28)).alloc (.cells #[.int .i64 5, .bool false, .int .i64 0, .string ⟨#[]⟩, .string ⟨#[]⟩, .slice p2 lb.length cap2] 28)).alloc (.cells #[.int .i64 0, .bool false, .int .i64 0, .string ⟨#[]⟩, .string ⟨#[]⟩, .slice none 0 0] 28) := ⟨_, rfl⟩
  have S4 : Six W0 w.heap.size 5 false 0 ⟨#[]⟩ ⟨#[]⟩ p la.length cap := by rw [hW0]; exact ((six_new _ rfl).alloc _).alloc _
  have S5 : Six W0 (w.heap.size + 1) 5 false 0 ⟨#[]⟩ ⟨#[]⟩ p2 lb.length cap2 := by rw [hW0]; exact (six_new _ (by simp)).alloc _
  have S6 : Six W0 (w.heap.size + 2) 0 false 0 ⟨#[]⟩ ⟨#[]⟩ none 0 0 := by rw [hW0]; exact six_new _ (by simp)
  have b0 : Below w.heap.size w W0 := by rw [hW0]; exact below3 _ _ _ _
  have z0 := S6.lt
  have H0 := Lib.hid hW0
  have f0 := S4.c0
  have g0 := S5.c0
  have f5 := S4.c5
  have g5 := S5.c5
  have hc1 := fun W (h : Below w.heap.size w W) => checkAtV (.mk 5 false 0 ⟨#[]⟩ ⟨#[]⟩ la) 5 false 0 ⟨#[]⟩ ⟨#[]⟩ la (.slice p la.length cap) W rfl (hG.below h) (by decide) (by decide) (Held.below la hl h)
  rw [m1] at hc1
  have hc2 := fun W (h : Below w.heap.size w W) => checkAtV (.mk 5 false 0 ⟨#[]⟩ ⟨#[]⟩ lb) 5 false 0 ⟨#[]⟩ ⟨#[]⟩ lb (.slice p2 lb.length cap2) W rfl (hG.below h) (by decide) (by decide) (Held.below lb hl2 h)
  rw [m2] at hc2
  have hj := fun W (h : Below w.heap.size w W) => reckonC la lb p cap p2 cap2 W (Held.below la hl h) (Held.below lb hl2 h) hs
  clear hl hl2 hW0 hG m1 m2
  go_enter Tryz.func25, Tryz.ntmps25
  go_wp2_with (first
    | ((try rw [← H0.out]); (with_reducible refine wpList_load6 (.tmp 6) w.heap.size S4 ?_ ?_ ?_ ?_); rfl; rfl; rfl)
    | ((try rw [← H0.out]); (with_reducible refine wpList_load6g (.tmp 6) w.heap.size S4 ?_ ?_ ?_ ?_); rfl; rfl; rfl)
    | ((try rw [← H0.out]); (with_reducible refine wpList_load6 (.tmp 7) (w.heap.size + 1) S5 ?_ ?_ ?_ ?_); rfl; rfl; rfl)
    | ((try rw [← H0.out]); (with_reducible refine wpList_load6g (.tmp 7) (w.heap.size + 1) S5 ?_ ?_ ?_ ?_); rfl; rfl; rfl)
    | (go_at_call 59; (with_reducible refine (opYes _).mono ?_); rintro e w' ⟨rfl, rfl⟩)
    | (go_at_call 13; (try rw [← H0.out]); (with_reducible refine (hc1 _ b0).mono ?_); rintro e w' ⟨rfl, hb⟩; replace S4 := S4.below hb; replace S5 := S5.below hb; replace S6 := S6.below hb; replace b0 := below_any b0 hb b0.size; have z0 := S6.lt; have f0 := S4.c0; have g0 := S5.c0; have f5 := S4.c5; have g5 := S5.c5; clear hb)
    | (go_at_call 13; (try rw [← H0.out]); (with_reducible refine (hc2 _ b0).mono ?_); rintro e w' ⟨rfl, hb⟩; replace S4 := S4.below hb; replace S5 := S5.below hb; replace S6 := S6.below hb; replace b0 := below_any b0 hb b0.size; have z0 := S6.lt; have f0 := S4.c0; have g0 := S5.c0; have f5 := S4.c5; have g5 := S5.c5; clear hb)
    | (go_at_call 60; (with_reducible refine (hj _ b0).mono ?_); rintro e w' ⟨p9, c9, rfl, hq9, hb⟩; have HQ := Lib.hid hq9; have Z9 := Lib.hid z0; have B9 := Lib.hid b0.size; clear hq9; replace S6 := S6.below hb; replace b0 := below_any b0 hb b0.size; clear hb z0)
    | ((with_reducible refine wpList_store6 (k' := 5) (b' := false) (n' := 0) (t' := ⟨#[]⟩) (x' := ⟨#[]⟩) (p' := p9) (len' := la.length + lb.length) (cap' := c9) (.tmp 8) (.tmp 39) (w.heap.size + 2) S6 ?_ ?_ ?_ ?_ ?_); rfl; rfl; rfl; rfl; intro w9 on9 S9))
  refine bodyPost_ret (results_six_tmp (p := 8) (q := 9) Tryz.results25 _ (.int .i64 0) rfl rfl S9) rfl ⟨p9, c9, rfl, JoinPost.after HQ.out on9 Z9.out B9.out, below_only b0 on9 (by omega) b0.size⟩

set_option maxRecDepth 20000 in
set_option maxHeartbeats 6400000 in
theorem arithS (la lb : List Val) (p : Option Addr) (cap : Nat) (p2 : Option Addr) (cap2 : Nat) (w : World) (hG : Gd w) (hl : Held w (.slice p la.length cap) la) (hl2 : Held w (.slice p2 lb.length cap2) lb) (m1 : mayP (.mk 5 false 0 ⟨#[]⟩ ⟨#[]⟩ la) 0 = true) (m2 : mayP (.mk 5 false 0 ⟨#[]⟩ ⟨#[]⟩ lb) 0 = true) :
    Calls Tryz.prog 25 #[.int .i64 1, .int .i64 17, .agg #[.int .i64 5, .bool false, .int .i64 0, .string ⟨#[]⟩, .string ⟨#[]⟩, .slice p la.length cap], .agg #[.int .i64 5, .bool false, .int .i64 0, .string ⟨#[]⟩, .string ⟨#[]⟩, .slice p2 lb.length cap2]] w (ErrPost w) := by
  obtain ⟨W0, hW0⟩ : ∃ W0, W0 = ((w.alloc (.cells #[.int .i64 5, .bool false, .int .i64 0, .string ⟨#[]⟩, .string ⟨#[]⟩, .slice p la.length cap] 28)).alloc (.cells #[.int .i64 5, .bool false, .int .i64 0, .string ⟨#[]⟩, .string ⟨#[]⟩, .slice p2 lb.length cap2] 28)).alloc (.cells #[.int .i64 0, .bool false, .int .i64 0, .string ⟨#[]⟩, .string ⟨#[]⟩, .slice none 0 0] 28) := ⟨_, rfl⟩
  have S4 : Six W0 w.heap.size 5 false 0 ⟨#[]⟩ ⟨#[]⟩ p la.length cap := by rw [hW0]; exact ((six_new _ rfl).alloc _).alloc _
  have S5 : Six W0 (w.heap.size + 1) 5 false 0 ⟨#[]⟩ ⟨#[]⟩ p2 lb.length cap2 := by rw [hW0]; exact (six_new _ (by simp)).alloc _
  have S6 : Six W0 (w.heap.size + 2) 0 false 0 ⟨#[]⟩ ⟨#[]⟩ none 0 0 := by rw [hW0]; exact six_new _ (by simp)
  have b0 : Below w.heap.size w W0 := by rw [hW0]; exact below3 _ _ _ _
  have z0 := S6.lt
  have H0 := Lib.hid hW0
  have f0 := S4.c0
  have g0 := S5.c0
  have f5 := S4.c5
  have g5 := S5.c5
  have hc1 := fun W (h : Below w.heap.size w W) => checkAtV (.mk 5 false 0 ⟨#[]⟩ ⟨#[]⟩ la) 5 false 0 ⟨#[]⟩ ⟨#[]⟩ la (.slice p la.length cap) W rfl (hG.below h) (by decide) (by decide) (Held.below la hl h)
  rw [m1] at hc1
  have hc2 := fun W (h : Below w.heap.size w W) => checkAtV (.mk 5 false 0 ⟨#[]⟩ ⟨#[]⟩ lb) 5 false 0 ⟨#[]⟩ ⟨#[]⟩ lb (.slice p2 lb.length cap2) W rfl (hG.below h) (by decide) (by decide) (Held.below lb hl2 h)
  rw [m2] at hc2
  have hj := fun W => reckonS la lb p cap p2 cap2 W
  clear hl hl2 hW0 hG m1 m2
  go_enter Tryz.func25, Tryz.ntmps25
  go_wp2_with (first
    | ((try rw [← H0.out]); (with_reducible refine wpList_load6 (.tmp 6) w.heap.size S4 ?_ ?_ ?_ ?_); rfl; rfl; rfl)
    | ((try rw [← H0.out]); (with_reducible refine wpList_load6g (.tmp 6) w.heap.size S4 ?_ ?_ ?_ ?_); rfl; rfl; rfl)
    | ((try rw [← H0.out]); (with_reducible refine wpList_load6 (.tmp 7) (w.heap.size + 1) S5 ?_ ?_ ?_ ?_); rfl; rfl; rfl)
    | ((try rw [← H0.out]); (with_reducible refine wpList_load6g (.tmp 7) (w.heap.size + 1) S5 ?_ ?_ ?_ ?_); rfl; rfl; rfl)
    | (go_at_call 59; (with_reducible refine (opYes _).mono ?_); rintro e w' ⟨rfl, rfl⟩)
    | (go_at_call 13; (try rw [← H0.out]); (with_reducible refine (hc1 _ b0).mono ?_); rintro e w' ⟨rfl, hb⟩; replace S4 := S4.below hb; replace S5 := S5.below hb; replace S6 := S6.below hb; replace b0 := below_any b0 hb b0.size; have z0 := S6.lt; have f0 := S4.c0; have g0 := S5.c0; have f5 := S4.c5; have g5 := S5.c5; clear hb)
    | (go_at_call 13; (try rw [← H0.out]); (with_reducible refine (hc2 _ b0).mono ?_); rintro e w' ⟨rfl, hb⟩; replace S4 := S4.below hb; replace S5 := S5.below hb; replace S6 := S6.below hb; replace b0 := below_any b0 hb b0.size; have z0 := S6.lt; have f0 := S4.c0; have g0 := S5.c0; have f5 := S4.c5; have g5 := S5.c5; clear hb)
    | (go_at_call 60; (with_reducible refine (hj _).mono ?_); rintro e w' ⟨rfl, hb⟩; replace S6 := S6.below hb; replace b0 := below_any b0 hb b0.size; clear hb)
    | ((with_reducible refine wpList_store6 (k' := 0) (b' := false) (n' := 0) (t' := ⟨#[]⟩) (x' := ⟨#[]⟩) (p' := none) (len' := 0) (cap' := 0) (.tmp 8) (.tmp 39) (w.heap.size + 2) S6 ?_ ?_ ?_ ?_ ?_); rfl; rfl; rfl; rfl; intro w9 on9 S9))
  exact bodyPost_ret (results_six_tmp (p := 8) (q := 9) Tryz.results25 _ (.int .i64 4) rfl rfl S9) rfl ⟨rfl, below_only b0 on9 (by omega) b0.size⟩
end Go.Proofs.YtoifjjgakblhhaaGreatDoor

/- The document's own Same, for values in one another. -/
namespace Go.Proofs.YtoifjjgakblhhaaGreatDoor
open Go.RowKit

/-- The document's own Same's contract at a value. -/
def SameZ (v : Val) : Prop := ∀ (W : World) (k : Int) (b : Bool) (n : Int) (t x : ByteArray) (q : List Val) (p : Option Addr) (cap : Nat) (v2 : Val) (k2 : Int) (b2 : Bool) (n2 : Int) (t2 x2 : ByteArray) (q2 : List Val) (p2 : Option Addr) (cap2 : Nat),
  v = .mk k b n t x q → v2 = .mk k2 b2 n2 t2 x2 q2 → q.length ≤ 2097152 → Held W (.slice p q.length cap) q → Held W (.slice p2 q2.length cap2) q2 →
  Calls Tryz.prog 18 #[.agg #[.int .i64 k, .bool b, .int .i64 n, .string t, .string x, .slice p q.length cap], .agg #[.int .i64 k2, .bool b2, .int .i64 n2, .string t2, .string x2, .slice p2 q2.length cap2]] W
    fun e w' => e = .returned (.bool (sameP v v2)) ∧ Below W.heap.size W w'

theorem eqRowLen (p p2 : Option Addr) (n n2 cap cap2 : Nat) (w : World) (h : ¬ n = n2) :
    Calls Tryz.prog 34 #[.slice p n cap, .slice p2 n2 cap2] w fun e w' => e = .returned (.bool false) ∧ Below w.heap.size w w' := by
  have h1 : ((n : Int) != n2) = true := by simp; omega
  clear h
  go_enter Tryz.func34, Tryz.ntmps34
  go_wp2_with fail
  go_ret
  exact ⟨rfl, Below.refl _ _⟩
theorem eqRowNone (p p2 : Option Addr) (cap cap2 : Nat) (w : World) :
    Calls Tryz.prog 34 #[.slice p 0 cap, .slice p2 0 cap2] w fun e w' => e = .returned (.bool true) ∧ Below w.heap.size w w' := by
  go_enter Tryz.func34, Tryz.ntmps34
  go_wp2_with fail
  go_loopw [5] (fun i wr => i = .int .i64 0 ∧ wr = w) (fun _ _ => 0)
  case atStart => exact ⟨rfl, rfl⟩
  case round =>
    obtain ⟨rfl, rfl⟩ := hrel
    go_wp2_with fail
    go_ret
    exact ⟨rfl, Below.refl _ _⟩

set_option maxRecDepth 20000 in
set_option maxHeartbeats 3200000 in
theorem eqRowSome (l l2 : List Val) (g off cap g2 off2 cap2 : Nat) (w : World) (hl : Holds w g off l) (hl2 : Holds w g2 off2 l2) (hlen : l2.length = l.length) (hn : l.length ≤ 2097152) (each : ∀ v ∈ l, SameZ v) :
    Calls Tryz.prog 34 #[.slice (some ⟨g, off, none⟩) l.length cap, .slice (some ⟨g2, off2, none⟩) l.length cap2] w fun e w' => e = .returned (.bool (eachSame l l2)) ∧ Below w.heap.size w w' := by
  have HH := Lib.hid hl
  have HH2 := Lib.hid hl2
  have HE := Lib.hid each
  have HL := Lib.hid hlen
  clear hl hl2 each hlen
  go_enter Tryz.func34, Tryz.ntmps34
  go_wp2_with fail
  go_loopw [5] (fun i wr => ∃ j : Nat, j ≤ l.length ∧ i = .int .i64 j ∧ Below w.heap.size w wr ∧ ∀ (i : Nat) (h : i < l.length) (h2 : i < l2.length), i < j → sameP l[i] l2[i] = true) (fun i _ => l.length - (intOf i).toNat)
  case atStart => exact ⟨0, Nat.zero_le _, rfl, Below.refl _ _, fun _ _ _ h => absurd h (by omega)⟩
  case round =>
    obtain ⟨j, hj, rfl, hb, hall⟩ := hrel
    have HA := Lib.hid hall
    clear hall
    by_cases hlt : j < l.length
    · have hlt2 : j < l2.length := by have := HL.out; omega
      obtain ⟨k, b, n, t, x, q, p, cp, o1⟩ := (Holds.at_ l off HH.out j hlt).opens
      obtain ⟨k2, b2, n2, t2, x2, q2, p2, cp2, o2⟩ := (Holds.at_ l2 off2 HH2.out j hlt2).opens
      have hc := fun W (hb : Below w.heap.size w W) => HE.out l[j] (List.getElem_mem hlt) W k b n t x q p cp l2[j] k2 b2 n2 t2 x2 q2 p2 cp2 o1.e o2.e o1.hf.hn (Held.below q o1.hl hb) (Held.below q2 o2.hl hb)
      obtain ⟨r, hr⟩ : ∃ r, r = sameP l[j] l2[j] := ⟨_, rfl⟩
      rw [← hr] at hc
      have R1 : ∀ w', Below w.heap.size w w' → w'.rangeAt g (off + j * 6) [.int .i64 k, .bool b, .int .i64 n, .string t, .string x, .slice p q.length cp] := fun w' h => (o1.below h).range
      have R2 : ∀ w', Below w.heap.size w w' → w'.rangeAt g2 (off2 + j * 6) [.int .i64 k2, .bool b2, .int .i64 n2, .string t2, .string x2, .slice p2 q2.length cp2] := fun w' h => (o2.below h).range
      have HC := Lib.hid hc
      have HR := Lib.hid hr
      have HR1 := Lib.hid R1
      have HR2 := Lib.hid R2
      clear o1 o2 hr hc R1 R2
      have hlti : (j : Int) < l.length := by omega
      go_wp2_with fail
      refine wp_region_held_drew (S := fun w' => Below w.heap.size w w') (by kernel_rfl) hb.drew (fun hHeld => ?_)
      refine wpAnyH_take (i := 0) (v := .slice (some ⟨g, off, none⟩) l.length cap) rfl (by kernel_rfl) (by kernel_rfl) (by kernel_rfl) (fun _ _ _ h => h) (Or.inl ⟨by rfl, fun W _ => by go_simp⟩) hHeld ?_
      try simp only [Act.put, List.getElem_toArray, List.getElem_cons_succ, List.getElem_cons_zero, List.setIfInBounds_toArray, List.set_cons_zero, List.set_cons_succ]
      refine wpAnyH_take (i := 1) (v := .int .i64 j) rfl (by kernel_rfl) (by kernel_rfl) (by kernel_rfl) (fun _ _ _ h => h) (Or.inl ⟨by rfl, fun W _ => by go_simp⟩) hHeld ?_
      try simp only [Act.put, List.getElem_toArray, List.getElem_cons_succ, List.getElem_cons_zero, List.setIfInBounds_toArray, List.set_cons_zero, List.set_cons_succ]
      refine wpAnyH_take (i := 2) (v := .pointer (some ⟨g, off + j * 6, none⟩)) rfl (by kernel_rfl) (by kernel_rfl) (by kernel_rfl) (fun _ _ _ h => h) (Or.inl ⟨by rfl, fun W _ => by go_simp⟩) hHeld ?_
      try simp only [Act.put, List.getElem_toArray, List.getElem_cons_succ, List.getElem_cons_zero, List.setIfInBounds_toArray, List.set_cons_zero, List.set_cons_succ]
      refine wpAnyH_take (i := 3) rfl (by kernel_rfl) (by kernel_rfl) (by kernel_rfl) (fun _ _ _ h => h) (yieldsIf_load_mid (by rfl) 28 (.tmp 19) rfl g (off + j * 6) rfl _ _ (fun w h => HR1.out w h) Tryz.underlying28 rfl info28) hHeld ?_
      try simp only [Act.put, List.getElem_toArray, List.getElem_cons_succ, List.getElem_cons_zero, List.setIfInBounds_toArray, List.set_cons_zero, List.set_cons_succ]
      refine wpAnyH_take (i := 4) (v := .slice (some ⟨g2, off2, none⟩) l.length cap2) rfl (by kernel_rfl) (by kernel_rfl) (by kernel_rfl) (fun _ _ _ h => h) (Or.inl ⟨by rfl, fun W _ => by go_simp⟩) hHeld ?_
      try simp only [Act.put, List.getElem_toArray, List.getElem_cons_succ, List.getElem_cons_zero, List.setIfInBounds_toArray, List.set_cons_zero, List.set_cons_succ]
      refine wpAnyH_take (i := 5) (v := .int .i64 j) rfl (by kernel_rfl) (by kernel_rfl) (by kernel_rfl) (fun _ _ _ h => h) (Or.inl ⟨by rfl, fun W _ => by go_simp⟩) hHeld ?_
      try simp only [Act.put, List.getElem_toArray, List.getElem_cons_succ, List.getElem_cons_zero, List.setIfInBounds_toArray, List.set_cons_zero, List.set_cons_succ]
      refine wpAnyH_take (i := 6) (v := .pointer (some ⟨g2, off2 + j * 6, none⟩)) rfl (by kernel_rfl) (by kernel_rfl) (by kernel_rfl) (fun _ _ _ h => h) (Or.inl ⟨by rfl, fun W _ => by go_simp⟩) hHeld ?_
      try simp only [Act.put, List.getElem_toArray, List.getElem_cons_succ, List.getElem_cons_zero, List.setIfInBounds_toArray, List.set_cons_zero, List.set_cons_succ]
      refine wpAnyH_take (i := 7) rfl (by kernel_rfl) (by kernel_rfl) (by kernel_rfl) (fun _ _ _ h => h) (yieldsIf_load_mid (by rfl) 28 (.tmp 23) rfl g2 (off2 + j * 6) rfl _ _ (fun w h => HR2.out w h) Tryz.underlying28 rfl info28) hHeld ?_
      try simp only [Act.put, List.getElem_toArray, List.getElem_cons_succ, List.getElem_cons_zero, List.setIfInBounds_toArray, List.set_cons_zero, List.set_cons_succ]
      refine wpAnyH_ready (rs := [8]) (by kernel_rfl) (by simp) ?_
      refine AllReadyH.cons rfl (fun K hK => ?_) AllReadyH.nil
      rw [if_pos (by rfl)]
      go_simp
      refine (HC.out _ hHeld).mono ?_
      rintro e w3 ⟨rfl, hb3⟩
      refine hK.out _ _ (below_any hHeld hb3 hHeld.size) (fun hHeld2 => ?_)
      clear hK K hb3 hHeld
      try simp only [Act.put, List.getElem_toArray, List.getElem_cons_succ, List.getElem_cons_zero, List.setIfInBounds_toArray, List.set_cons_zero, List.set_cons_succ]
      refine wpAnyH_take (i := 9) (v := .bool (!r)) rfl (by kernel_rfl) (by kernel_rfl) (by kernel_rfl) (fun _ _ _ h => h) (Or.inl ⟨by rfl, fun W _ => by go_simp⟩) hHeld2 ?_
      try simp only [Act.put, List.getElem_toArray, List.getElem_cons_succ, List.getElem_cons_zero, List.setIfInBounds_toArray, List.set_cons_zero, List.set_cons_succ]
      refine wpAnyH_done (by kernel_rfl) ?_ _
      cases r with
      | true =>
        go_wp2_with fail
        go_roundw
        case rel =>
          refine ⟨j + 1, by omega, by go_num, hHeld2, fun i hi hi2 hlt' => ?_⟩
          by_cases e : i = j
          · subst e; exact HR.out.symm
          · exact HA.out i hi hi2 (by omega)
        case measure => simp [intOf]; omega
      | false =>
        go_wp2_with fail
        go_ret
        exact ⟨by rw [eachSame_no l l2 j hlt hlt2 HR.out.symm]; rfl, hHeld2⟩
    · go_wp2_with fail
      go_ret
      exact ⟨by rw [eachSame_yes l l2 fun i h h2 => HA.out i h h2 (by omega)]; rfl, hb⟩

theorem eqRowAt (l l2 : List Val) (p p2 : Option Addr) (cap cap2 : Nat) (w : World) (hl : Held w (.slice p l.length cap) l) (hl2 : Held w (.slice p2 l2.length cap2) l2) (hn : l.length ≤ 2097152) (each : ∀ v ∈ l, SameZ v) :
    Calls Tryz.prog 34 #[.slice p l.length cap, .slice p2 l2.length cap2] w fun e w' => e = .returned (.bool ((l.length == l2.length) && eachSame l l2)) ∧ Below w.heap.size w w' := by
  by_cases h : l.length = l2.length
  · rw [show (l.length == l2.length) = true by simpa using h, Bool.true_and, ← h]
    cases l with
    | nil =>
      unfold eachSame
      exact eqRowNone _ _ _ _ _
    | cons v r =>
      cases l2 with
      | nil => simp at h
      | cons v2 r2 =>
        obtain ⟨g, off, rfl, hh⟩ := hl.form
        obtain ⟨g2, off2, rfl, hh2⟩ := hl2.form
        exact eqRowSome (v :: r) (v2 :: r2) g off cap g2 off2 cap2 w hh hh2 h.symm hn each
  · rw [show (l.length == l2.length) = false by simpa using h, Bool.false_and]
    exact eqRowLen p p2 _ _ cap cap2 w h

set_option maxHeartbeats 1600000 in
theorem sameZ_step (v : Val) (k : Int) (b : Bool) (n : Int) (t x : ByteArray) (q : List Val) (ev : v = .mk k b n t x q) (each : ∀ u ∈ q, SameZ u) : SameZ v := by
  subst ev
  intro W k1 b1 n1 t1 x1 q1 p cap v2 k2 b2 n2 t2 x2 q2 p2 cap2 e1 e2 hn hl hl2
  cases e1
  subst e2
  unfold sameP
  obtain ⟨c1, hc1⟩ : ∃ c1, c1 = Obj.cells #[.int .i64 k, .bool b, .int .i64 n, .string t, .string x, .slice p q.length cap] 28 := ⟨_, rfl⟩
  obtain ⟨c2, hc2⟩ : ∃ c2, c2 = Obj.cells #[.int .i64 k2, .bool b2, .int .i64 n2, .string t2, .string x2, .slice p2 q2.length cap2] 28 := ⟨_, rfl⟩
  have b0 := below2 W c1 c2
  have hc := eqRowAt q q2 p p2 cap cap2 ((W.alloc c1).alloc c2) (Held.below q hl b0) (Held.below q2 hl2 b0) hn each
  have l0 : Six ((W.alloc c1).alloc c2) W.heap.size k b n t x p q.length cap := by rw [hc1]; exact (six_new _ rfl).alloc _
  have l1 : Six ((W.alloc c1).alloc c2) (W.heap.size + 1) k2 b2 n2 t2 x2 p2 q2.length cap2 := by rw [hc2]; exact six_new _ (by simp)
  have z0 := b0.size
  have f0 := l0.c0
  have f1 := l0.c1
  have f2 := l0.c2
  have f3 := l0.c3
  have f4 := l0.c4
  have f5 := l0.c5
  have g0 := l1.c0
  have g1 := l1.c1
  have g2 := l1.c2
  have g3 := l1.c3
  have g4 := l1.c4
  have g5 := l1.c5
  clear l0 l1 hl hl2 each hn
  subst hc1 hc2
  cases a0 : (k == k2) with
  | false =>
    rw [Bool.false_and]
    go_enter Tryz.func18, Tryz.ntmps18
    go_wp2_with fail
    go_ret
    exact ⟨rfl, b0⟩
  | true =>
    rw [Bool.true_and]
    cases a1 : (b == b2) with
    | false =>
      rw [Bool.false_and]
      go_enter Tryz.func18, Tryz.ntmps18
      go_wp2_with fail
      go_ret
      exact ⟨rfl, b0⟩
    | true =>
      rw [Bool.true_and]
      cases a2 : (n == n2) with
      | false =>
        rw [Bool.false_and]
        go_enter Tryz.func18, Tryz.ntmps18
        go_wp2_with fail
        go_ret
        exact ⟨rfl, b0⟩
      | true =>
        rw [Bool.true_and]
        cases a3 : (t.toList == t2.toList) with
        | false =>
          rw [Bool.false_and]
          go_enter Tryz.func18, Tryz.ntmps18
          go_wp2_with fail
          go_ret
          exact ⟨rfl, b0⟩
        | true =>
          rw [Bool.true_and]
          cases a4 : (x.toList == x2.toList) with
          | false =>
            rw [Bool.false_and]
            go_enter Tryz.func18, Tryz.ntmps18
            go_wp2_with fail
            go_ret
            exact ⟨rfl, b0⟩
          | true =>
            rw [Bool.true_and]
            generalize (q.length == q2.length && eachSame q q2) = r at hc ⊢
            go_enter Tryz.func18, Tryz.ntmps18
            go_wp2_with (go_at_call 34; (with_reducible refine hc.mono ?_); rintro e w3 ⟨rfl, hb3⟩; replace b0 := below_any b0 hb3 z0)
            go_ret
            exact ⟨rfl, b0⟩

mutual
theorem sameZAll : (v : Val) → SameZ v
  | .mk k b n t x q => sameZ_step _ k b n t x q rfl (sameZEach q)
theorem sameZEach : (q : List Val) → ∀ u ∈ q, SameZ u
  | [], _, h => absurd h (by simp)
  | v :: r, u, h => by
    rcases List.mem_cons.1 h with h | h
    · rw [h]; exact sameZAll v
    · exact sameZEach r u h
end
end Go.Proofs.YtoifjjgakblhhaaGreatDoor

/- Parts of a list of values: where they lie; what may be; what is the same as itself. -/
namespace Go.Proofs.YtoifjjgakblhhaaGreatDoor
open Go.RowKit

theorem Holds.take {w : World} {g : Nat} : (l : List Val) → (off i : Nat) → Holds w g off l → Holds w g off (l.take i)
  | [], _, _, _ => by rw [List.take_nil]; unfold Holds; trivial
  | v :: r, off, 0, _ => by unfold Holds; trivial
  | v :: r, off, i + 1, h => by
    show Holds w g off (v :: r.take i)
    unfold Holds at h ⊢
    exact ⟨h.1, Holds.take r _ i h.2⟩
theorem Holds.drop {w : World} {g : Nat} : (l : List Val) → (off i : Nat) → Holds w g off l → Holds w g (off + i * 6) (l.drop i)
  | [], _, _, _ => by rw [List.drop_nil]; unfold Holds; trivial
  | v :: r, off, 0, h => by rw [Nat.zero_mul, Nat.add_zero]; exact h
  | v :: r, off, i + 1, h => by
    show Holds w g _ (r.drop i)
    unfold Holds at h
    have := Holds.drop r (off + 6) i h.2
    rwa [show off + (i + 1) * 6 = off + 6 + i * 6 by omega]
theorem heldOf {w : World} {g off cap : Nat} {l : List Val} (h : Holds w g off l) : Held w (.slice (some ⟨g, off, none⟩) l.length cap) l := by
  cases l with
  | nil => unfold Held; exact ⟨_, cap, rfl⟩
  | cons v r =>
    unfold Holds at h
    unfold Held
    exact ⟨g, off, cap, rfl, h.1, h.2⟩
mutual
theorem sameP_self : (v : Val) → sameP v v = true
  | .mk k b n t x l => by
    unfold sameP
    rw [eachSame_self l]
    simp
theorem eachSame_self : (l : List Val) → eachSame l l = true
  | [] => by unfold eachSame; rfl
  | v :: r => by
    unfold eachSame
    rw [sameP_self v, eachSame_self r]
    rfl
end
theorem eachP_append (d : Nat) : (l m : List Val) → eachP (l ++ m) d = (eachP l d && eachP m d)
  | [], m => by
    show eachP m d = _
    rw [show eachP [] d = true by unfold eachP; rfl, Bool.true_and]
  | v :: r, m => by
    show eachP (v :: (r ++ m)) d = _
    rw [show eachP (v :: (r ++ m)) d = (mayP v d && eachP (r ++ m) d) by conv => lhs; unfold eachP, show eachP (v :: r) d = (mayP v d && eachP r d) by conv => lhs; unfold eachP, eachP_append d r m, Bool.and_assoc]
theorem mayP5 (l : List Val) : mayP (.mk 5 false 0 ⟨#[]⟩ ⟨#[]⟩ l) 0 = (decide (l.length ≤ 4096) && eachP l 1) := by
  unfold mayP fitsP
  simp [bareP]
  exact fun _ _ => rfl
theorem mayP_none : mayP (.mk 5 false 0 ⟨#[]⟩ ⟨#[]⟩ []) 0 = true := by
  rw [mayP5]
  unfold eachP
  rfl
theorem mayP_join (l : List Val) (i : Nat) (hn : l.length ≤ 4096) (h1 : mayP (.mk 5 false 0 ⟨#[]⟩ ⟨#[]⟩ (l.take i)) 0 = true) (h2 : mayP (.mk 5 false 0 ⟨#[]⟩ ⟨#[]⟩ (l.drop i)) 0 = true) : mayP (.mk 5 false 0 ⟨#[]⟩ ⟨#[]⟩ l) 0 = true := by
  rw [mayP5, Bool.and_eq_true] at *
  refine ⟨decide_eq_true hn, ?_⟩
  have := eachP_append 1 (l.take i) (l.drop i)
  rw [List.take_append_drop, h1.2, h2.2] at this
  exact this
theorem same5 (l : List Val) : sameP (.mk 5 false 0 ⟨#[]⟩ ⟨#[]⟩ l) (.mk 5 false 0 ⟨#[]⟩ ⟨#[]⟩ l) = true := sameP_self _
end Go.Proofs.YtoifjjgakblhhaaGreatDoor

/- Towards ValueBack: Encode's bytes with their block; bytes copied. -/
namespace Go.Proofs.YtoifjjgakblhhaaGreatDoor
open Go.RowKit

set_option maxRecDepth 20000 in
set_option maxHeartbeats 3200000 in
theorem encodeNo (v : Val) (k : Int) (b : Bool) (n : Int) (t x : ByteArray) (q : List Val) (p : Option Addr) (cap : Nat) (w : World) (hG : Gd w) (ev : v = .mk k b n t x q) (hf : Fine n t x q.length) (hl : Held w (.slice p q.length cap) q) (hm : mayP v 0 = false) :
    Calls Tryz.prog 28 #[.agg #[.int .i64 k, .bool b, .int .i64 n, .string t, .string x, .slice p q.length cap]] w fun e w' => e = .returned (.tuple #[.slice none 0 0, .int .i64 1]) ∧ Below w.heap.size w w' := by
  obtain ⟨W0, hW0⟩ : ∃ W0, W0 = w.alloc (.cells #[.int .i64 k, .bool b, .int .i64 n, .string t, .string x, .slice p q.length cap] 28) := ⟨_, rfl⟩
  have S : Six W0 w.heap.size k b n t x p q.length cap := by rw [hW0]; exact six_new _ rfl
  have b0 : Below w.heap.size w W0 := by rw [hW0]; exact below1 _ _
  have hc := fun W (h : Below w.heap.size w W) => checkAtV v k b n t x q (.slice p q.length cap) W ev (hG.below h) hf.ht hf.hx (Held.below q hl h)
  have H0 := Lib.hid hW0
  rw [hm] at hc
  clear hW0 hl hf hG ev hm
  go_enter Tryz.func28, Tryz.ntmps28
  go_wp2_with (first
    | ((try rw [← H0.out]); (with_reducible refine wpList_load6 (.tmp 1) w.heap.size S ?_ ?_ ?_ ?_); rfl; rfl; rfl)
    | (go_at_call 13; (with_reducible refine (hc _ b0).mono ?_); rintro e w' ⟨rfl, hb⟩; replace S := S.below hb; replace b0 := below_any b0 hb b0.size; clear hb))
  go_ret2
  exact ⟨rfl, b0⟩
set_option maxRecDepth 20000 in
set_option maxHeartbeats 3200000 in
theorem encodeYes (v : Val) (k : Int) (b : Bool) (n : Int) (t x : ByteArray) (q : List Val) (p : Option Addr) (cap : Nat) (w : World) (hG : Gd w) (ev : v = .mk k b n t x q) (hf : Fine n t x q.length) (hl : Held w (.slice p q.length cap) q) (hw : 13 * wOne v ≤ 800000000) (hm : mayP v 0 = true) :
    Calls Tryz.prog 28 #[.agg #[.int .i64 k, .bool b, .int .i64 n, .string t, .string x, .slice p q.length cap]] w fun e w' => ∃ A, e = .returned (.tuple #[A, .int .i64 0]) ∧ Src w' A (encP v) ∧ Below w.heap.size w w' := by
  obtain ⟨W0, hW0⟩ : ∃ W0, W0 = w.alloc (.cells #[.int .i64 k, .bool b, .int .i64 n, .string t, .string x, .slice p q.length cap] 28) := ⟨_, rfl⟩
  have S : Six W0 w.heap.size k b n t x p q.length cap := by rw [hW0]; exact six_new _ rfl
  have b0 : Below w.heap.size w W0 := by rw [hW0]; exact below1 _ _
  have hc := fun W (h : Below w.heap.size w W) => checkAtV v k b n t x q (.slice p q.length cap) W ev (hG.below h) hf.ht hf.hx (Held.below q hl h)
  have he := fun W (h : Below w.heap.size w W) => encVal v W W (.slice none 0 0) [] k b n t x q p cap ev hf (Held.below q hl h) (OwnB.start W) (by simpa using hw)
  unfold EncPost at he
  have H0 := Lib.hid hW0
  rw [hm] at hc
  clear hW0 hl hf hG ev hm
  go_enter Tryz.func28, Tryz.ntmps28
  go_wp2_with (first
    | ((try rw [← H0.out]); (with_reducible refine wpList_load6 (.tmp 1) w.heap.size S ?_ ?_ ?_ ?_); rfl; rfl; rfl)
    | (go_at_call 13; (with_reducible refine (hc _ b0).mono ?_); rintro e w' ⟨rfl, hb⟩; replace S := S.below hb; replace b0 := below_any b0 hb b0.size; clear hb)
    | (go_at_call 68; (with_reducible refine (he _ b0).mono ?_); rintro e w3 ⟨A3, rfl, O3⟩; have b3 := below_any b0 O3.bel b0.size; have HO := Lib.hid O3; clear O3))
  go_ret2
  exact ⟨_, rfl, by simpa using HO.out.src, b3⟩
set_option maxRecDepth 20000 in
set_option maxHeartbeats 3200000 in
theorem copyB (l : List UInt8) (g off cap : Nat) (w : World) (hc : ∀ j c, l[j]? = some c → w.cell? ⟨g, off + j, none⟩ = some (.int .u8 c.toNat)) (hl : l.length ≤ 1000000000) :
    Calls Tryz.prog 32 #[.slice (some ⟨g, off, none⟩) l.length cap] w fun e w' => ∃ A, e = .returned A ∧ OwnB w A l w' := by
  obtain ⟨i0, hi, hz0, hz1, hz2⟩ := info_parts info5
  have O := OwnB.start w
  have hown := O.own
  have hnews : ∀ j u, (vals l)[j]? = some u → w.cell? ((⟨g, off, none⟩ : Addr).add j) = some u := fun j u hj => by
    rw [Addr.add_mid]
    unfold vals at hj
    rw [List.getElem?_map, Option.map_eq_some_iff] at hj
    obtain ⟨c, hcj, rfl⟩ := hj
    exact hc j c hcj
  have hone := vals_cells l
  have hl1 : (vals l).length = l.length * 1 := by rw [vals_length]; omega
  obtain ⟨X, hX⟩ : ∃ X, X = vals l := ⟨_, rfl⟩
  rw [← hX] at hnews hone hl1
  have HX := Lib.hid hX
  have HO := Lib.hid O
  clear hX hc O
  go_enter Tryz.func32, Tryz.ntmps32
  go_wp2_with (at_builtin; refine wpList_append_own _ rfl _ _ 40 rfl w.heap.size 5 i0 (.int .u8 0) 1 1 Tryz.underlying40 hi hz0 hz1 hz2 rfl (by decide) _ _ _ rfl hown ⟨g, off, none⟩ l.length cap X rfl hl1 hnews hone ?_ ?_ (Nat.le_refl _) ?_)
  all_goals (try (first | (show 0 + l.length ≤ maxLen; unfold maxLen; omega) | (show (0 + l.length) * 1 ≤ 140737488355328; omega)))
  intro v1 w1 hown1 hgrow _
  have O1 := Lib.hid (HO.out.say (l' := l) hown1 hgrow (by simp) (by rw [HX.out]; rfl))
  clear hown1 hgrow hown hnews hone
  go_wp2_with fail
  go_ret
  exact ⟨_, rfl, O1.out⟩
theorem enc_same (v u : Val) (hf : fineV v) (hm : mayP v 0 = true) (hf2 : fineV u) (hm2 : mayP u 0 = true) : decide (encP v = encP u) = sameP v u := by
  cases hs : sameP v u with
  | true => rw [same_eq v u hs]; simp
  | false =>
    refine decide_eq_false (fun h => ?_)
    rw [enc_inj v u hf hm hf2 hm2 h, sameP_self] at hs
    cases hs
theorem encP_last (v : Val) : ∃ l c, encP v = l ++ [c] ∧ l = (encP v).take ((encP v).length - 1) := by
  have h := encP_ne v
  refine ⟨(encP v).dropLast, (encP v).getLast h, (List.dropLast_concat_getLast h).symm, ?_⟩
  rw [List.dropLast_eq_take]
end Go.Proofs.YtoifjjgakblhhaaGreatDoor

/- How large a list of values is, and whether it isn't too deep: both answer. -/
namespace Go.Proofs.YtoifjjgakblhhaaGreatDoor
open Go.RowKit

def addW (a b : Int) : Int := wrap64 (a + b)
mutual
def sizeOne : Val → Int → Int
  | .mk _ _ _ t x l, n => addW (addW (addW (addW n 1) (wrap64 ((t.size : Int)/ 64))) (wrap64 ((x.size : Int)/ 64))) (sizeAll l 0)
def sizeAll : List Val → Int → Int
  | [], n => n
  | v :: r, n => sizeAll r (sizeOne v n)
end
theorem sizeAll_take : (l : List Val) → (n : Int) → (j : Nat) → (h : j < l.length) → sizeAll (l.take (j + 1)) n = sizeOne (l[j]'h) (sizeAll (l.take j) n)
  | [], _, j, h => absurd h (by simp)
  | v :: r, n, 0, _ => by
    show sizeAll (v :: r.take 0) n = sizeOne v (sizeAll [] n)
    simp [sizeAll]
  | v :: r, n, j + 1, h => by
    show sizeAll (v :: r.take (j + 1)) n = sizeOne (r[j]'(by simpa using h)) (sizeAll (v :: r.take j) n)
    unfold sizeAll
    exact sizeAll_take r _ j (by simpa using h)
/-- What Size answers of the list of a value that lies somewhere. -/
def SizeAt (v : Val) : Prop := ∀ (W : World) (k : Int) (b : Bool) (n : Int) (t x : ByteArray) (q : List Val) (p : Option Addr) (cap : Nat), v = .mk k b n t x q → q.length ≤ 2097152 → Held W (.slice p q.length cap) q →
  Calls Tryz.prog 35 #[.slice p q.length cap] W fun e w' => e = .returned (.int .i64 (sizeAll q 0)) ∧ ∃ m, w' = W.drewN m

set_option maxRecDepth 20000 in
set_option maxHeartbeats 1600000 in
theorem sizeSome (l : List Val) (g off cap : Nat) (w : World) (hl : Holds w g off l) (hn : l.length ≤ 2097152) (each : ∀ u ∈ l, SizeAt u) :
    Calls Tryz.prog 35 #[.slice (some ⟨g, off, none⟩) l.length cap] w fun e w' => e = .returned (.int .i64 (sizeAll l 0)) ∧ ∃ m, w' = w.drewN m := by
  obtain ⟨n, hln⟩ : ∃ n, n = l.length := ⟨_, rfl⟩
  rw [← hln] at hn ⊢
  have HL := Lib.hid hln
  have HH := Lib.hid hl
  have HE := Lib.hid each
  clear hl hln each
  go_enter Tryz.func35, Tryz.ntmps35
  go_wp2_with fail
  go_loopg [3, 4] n (fun gg s3 s4 wr => ∃ (j m : Nat) (z : Int), j + gg = n ∧ s4 = .int .i64 j ∧ s3 = .int .i64 z ∧ Hid (z = sizeAll (l.take j) 0) ∧ Hid (wr = w.drewN m))
  case atStart => exact ⟨0, 0, 0, by omega, rfl, rfl, Lib.hid (by simp [sizeAll]), Lib.hid rfl⟩
  case round =>
    obtain ⟨j, m, z, hjg, rfl, rfl, HZ, HW⟩ := hrel
    by_cases hlt : (j : Int) < n
    · have hj1 : j < l.length := by have := HL.out; omega
      obtain ⟨k, b, i, t, x, q, p, cp, o⟩ := (Holds.at_ l off HH.out j hj1).opens
      have o1 := o.below (w' := wr) (by rw [HW.out]; exact below_drewN (Below.refl _ _) m)
      have c3 := o1.c3
      have c4 := o1.c4
      have c5 := o1.c5
      have HC : ∀ nn, Calls Tryz.prog 35 #[.slice p q.length cp] (wr.drewN nn) fun e w' => e = .returned (.int .i64 (sizeAll q 0)) ∧ ∃ m', w' = (wr.drewN nn).drewN m' := fun nn =>
        HE.out l[j] (List.getElem_mem hj1) _ k b i t x q p cp o.e o.hf.hn (o1.below (below_drewN (Below.refl _ _) nn)).hl
      have HC := Lib.hid HC
      have hz : sizeAll (l.take (j + 1)) 0 = addW (addW (addW (addW z 1) (wrap64 ((t.size : Int)/ 64))) (wrap64 ((x.size : Int)/ 64))) (sizeAll q 0) := by
        rw [sizeAll_take l 0 j hj1, o.e, ← HZ.out]
        unfold sizeOne
        rfl
      have HZ2 := Lib.hid hz
      clear hz o o1
      generalize sizeAll q 0 = zq at *
      go_wp2_with fail
      go_quiet ((go_at_call 35; exact Calls.quiet_of (HC.out _)))
      go_wp2_with fail
      go_roundg (gk - 1)
      case measure => omega
      case rel => exact ⟨j + 1, m + nq, _, by omega, by go_num, rfl, Lib.hid (by rw [HZ2.out]; rfl), Lib.hid (by rw [HW.out, World.drewN_drewN])⟩
    · go_wp2_with fail
      go_ret
      have e : j = l.length := by have := HL.out; omega
      exact ⟨by rw [HZ.out, e, List.take_length]; rfl, m, HW.out⟩
theorem size_list (q : List Val) (p : Option Addr) (cap : Nat) (w : World) (hl : Held w (.slice p q.length cap) q) (hn : q.length ≤ 2097152) (each : ∀ u ∈ q, SizeAt u) :
    Calls Tryz.prog 35 #[.slice p q.length cap] w fun e w' => e = .returned (.int .i64 (sizeAll q 0)) ∧ ∃ m, w' = w.drewN m := by
  cases q with
  | nil =>
    go_enter Tryz.func35, Tryz.ntmps35
    go_wp2_with fail
    go_loopg [3, 4] 0 (fun gg s3 s4 wr => gg = 0 ∧ s3 = .int .i64 0 ∧ s4 = .int .i64 0 ∧ wr = w)
    case atStart => exact ⟨rfl, rfl, rfl, rfl⟩
    case round =>
      obtain ⟨_, rfl, rfl, rfl⟩ := hrel
      go_wp2_with fail
      go_ret
      exact ⟨rfl, 0, rfl⟩
  | cons v r =>
    obtain ⟨g, off, rfl, hh⟩ := hl.form
    exact sizeSome (v :: r) g off cap w hh hn each
mutual
theorem sizeVal : (v : Val) → SizeAt v
  | .mk k b n t x q => fun W k1 b1 n1 t1 x1 q1 p cap e hn hl => by
    cases e
    exact size_list q p cap W hl hn (sizeEach q)
theorem sizeEach : (q : List Val) → ∀ u ∈ q, SizeAt u
  | [], _, h => absurd h (by simp)
  | v :: r, u, h => by
    rcases List.mem_cons.1 h with h | h
    · rw [h]; exact sizeVal v
    · exact sizeEach r u h
end
end Go.Proofs.YtoifjjgakblhhaaGreatDoor
