/- Texts of one kind, one behind the other: each says ahead of itself what it shows. -/
import Derived.Test.YtoifjjgakblhhaaGreatDoorHbb
import Derived.Test.YtoifjjgakblhhaaGreatDoorHaz
import Derived.Test.YtoifjjgakblhhaaGreatDoorHat
/- What Arith tells, by the program: what is refused, what is none, and reckon's answer. -/
namespace Go.Proofs.YtoifjjgakblhhaaGreatDoor
open Go.RowKit

/-- Is this an operation of Arith? -/
def opB (op : Int) : Bool := op == 17 || op == 18 || op == 19 || op == 20 || op == 21
theorem opAt (op : Int) (h0 : 16 ≤ op) (h1 : op ≤ 22) (w : World) : Calls Tryz.prog 59 #[.int .i64 op] w fun e w' => e = .returned (.bool (opB op)) ∧ w' = w := by
  have hop : op = 16 ∨ op = 17 ∨ op = 18 ∨ op = 19 ∨ op = 20 ∨ op = 21 ∨ op = 22 := by omega
  rcases hop with rfl | rfl | rfl | rfl | rfl | rfl | rfl
  all_goals
    go_enter Tryz.func59, Tryz.ntmps59
    go_wp2_with fail
    go_ret
    exact ⟨rfl, rfl⟩

set_option maxRecDepth 20000 in
set_option maxHeartbeats 3200000 in
theorem joinListsNo (p : Option Addr) (m cap : Nat) (p2 : Option Addr) (m2 cap2 : Nat) (w : World) (h : 4096 < m + m2) (ha : m ≤ 2097152) (hb : m2 ≤ 2097152) :
    Calls Tryz.prog 100 #[.slice p m cap, .slice p2 m2 cap2] w (RPost w 0 0 ⟨#[]⟩ 2) := by
  obtain ⟨W0, hW0⟩ : ∃ W0, W0 = w.alloc (.cells #[.int .i64 0, .bool false, .int .i64 0, .string ⟨#[]⟩, .string ⟨#[]⟩, .slice none 0 0] 28) := ⟨_, rfl⟩
  have S : Six W0 w.heap.size 0 false 0 ⟨#[]⟩ ⟨#[]⟩ none 0 0 := by rw [hW0]; exact six_new _ rfl
  have b0 : Below w.heap.size w W0 := by rw [hW0]; exact below1 _ _
  have H0 := Lib.hid hW0
  have hi : (4096 : Int) < m + m2 := by omega
  clear hW0 h
  go_enter Tryz.func100, Tryz.ntmps100
  go_wp2_with (first
    | ((try rw [← H0.out]); (with_reducible refine wpList_store6 (k' := 0) (b' := false) (n' := 0) (t' := ⟨#[]⟩) (x' := ⟨#[]⟩) (p' := none) (len' := 0) (cap' := 0) (.tmp 4) (.tmp 12) w.heap.size S ?_ ?_ ?_ ?_ ?_); rfl; rfl; rfl; rfl; intro w9 on9 S9))
  refine bodyPost_ret (results_six_tmp (p := 4) (q := 5) Tryz.results100 _ (.int .i64 2) rfl rfl S9) rfl ⟨rfl, below_only b0 on9 (Nat.le_refl _) b0.size⟩

set_option maxRecDepth 20000 in
set_option maxHeartbeats 12800000 in
theorem arBad (lang op : Int) (k : Int) (b : Bool) (n : Int) (t x : ByteArray) (q : List Val) (p : Option Addr) (cap : Nat) (k2 : Int) (b2 : Bool) (n2 : Int) (t2 x2 : ByteArray) (q2 : List Val) (p2 : Option Addr) (cap2 : Nat) (w : World) (ob m1 m2 : Bool) (ho : ∀ W, Calls Tryz.prog 59 #[.int .i64 op] W fun e w' => e = .returned (.bool ob) ∧ w' = W) (hc1 : ∀ W, Below w.heap.size w W → Calls Tryz.prog 13 #[.agg #[.int .i64 k, .bool b, .int .i64 n, .string t, .string x, .slice p q.length cap]] W fun e w' => e = .returned (.bool m1) ∧ Below W.heap.size W w') (hc2 : ∀ W, Below w.heap.size w W → Calls Tryz.prog 13 #[.agg #[.int .i64 k2, .bool b2, .int .i64 n2, .string t2, .string x2, .slice p2 q2.length cap2]] W fun e w' => e = .returned (.bool m2) ∧ Below W.heap.size W w') (h : (ob && m1 && m2) = false) :
    Calls Tryz.prog 25 #[.int .i64 lang, .int .i64 op, .agg #[.int .i64 k, .bool b, .int .i64 n, .string t, .string x, .slice p q.length cap], .agg #[.int .i64 k2, .bool b2, .int .i64 n2, .string t2, .string x2, .slice p2 q2.length cap2]] w (APost w 0 0 ⟨#[]⟩ [] 1) := by
  obtain ⟨W0, hW0⟩ : ∃ W0, W0 = ((w.alloc (.cells #[.int .i64 k, .bool b, .int .i64 n, .string t, .string x, .slice p q.length cap] 28)).alloc (.cells #[.int .i64 k2, .bool b2, .int .i64 n2, .string t2, .string x2, .slice p2 q2.length cap2] 28)).alloc (.cells #[.int .i64 0, .bool false, .int .i64 0, .string ⟨#[]⟩, .string ⟨#[]⟩, .slice none 0 0] 28) := ⟨_, rfl⟩
  have S4 : Six W0 w.heap.size k b n t x p q.length cap := by rw [hW0]; exact ((six_new _ rfl).alloc _).alloc _
  have S5 : Six W0 (w.heap.size + 1) k2 b2 n2 t2 x2 p2 q2.length cap2 := by rw [hW0]; exact (six_new _ (by simp)).alloc _
  have S8 : Six W0 (w.heap.size + 2) 0 false 0 ⟨#[]⟩ ⟨#[]⟩ none 0 0 := by rw [hW0]; exact six_new _ (by simp)
  have b0 : Below w.heap.size w W0 := by rw [hW0]; exact below3 _ _ _ _
  have f0 := S4.c0
  have g0 := S5.c0
  have H0 := Lib.hid hW0
  clear hW0
  have hcs : ob = false ∨ (ob = true ∧ m1 = false) ∨ (ob = true ∧ m1 = true ∧ m2 = false) := by cases ob <;> cases m1 <;> cases m2 <;> simp at h ⊢
  clear h
  rcases hcs with rfl | ⟨rfl, rfl⟩ | ⟨rfl, rfl, rfl⟩
  all_goals
    go_enter Tryz.func25, Tryz.ntmps25
    go_wp2_with (first
      | ((try rw [← H0.out]); (with_reducible refine wpList_load6 (.tmp 6) w.heap.size S4 ?_ ?_ ?_ ?_); rfl; rfl; rfl)
      | ((try rw [← H0.out]); (with_reducible refine wpList_load6g (.tmp 6) w.heap.size S4 ?_ ?_ ?_ ?_); rfl; rfl; rfl)
      | ((try rw [← H0.out]); (with_reducible refine wpList_load6 (.tmp 7) (w.heap.size + 1) S5 ?_ ?_ ?_ ?_); rfl; rfl; rfl)
      | ((try rw [← H0.out]); (with_reducible refine wpList_load6g (.tmp 7) (w.heap.size + 1) S5 ?_ ?_ ?_ ?_); rfl; rfl; rfl)
      | (go_at_call 59; (try rw [← H0.out]); (with_reducible refine (ho _).mono ?_); rintro e w' ⟨rfl, rfl⟩)
      | (go_at_call 13; (try rw [← H0.out]); (with_reducible refine (hc1 _ b0).mono ?_); rintro e w' ⟨rfl, hb⟩; replace S4 := S4.below hb; replace S5 := S5.below hb; replace S8 := S8.below hb; replace b0 := below_any b0 hb b0.size; have f0 := S4.c0; have g0 := S5.c0; clear hb)
      | (go_at_call 13; (try rw [← H0.out]); (with_reducible refine (hc2 _ b0).mono ?_); rintro e w' ⟨rfl, hb⟩; replace S4 := S4.below hb; replace S5 := S5.below hb; replace S8 := S8.below hb; replace b0 := below_any b0 hb b0.size; have f0 := S4.c0; have g0 := S5.c0; clear hb)
      | ((with_reducible refine wpList_store6 (k' := 0) (b' := false) (n' := 0) (t' := ⟨#[]⟩) (x' := ⟨#[]⟩) (p' := none) (len' := 0) (cap' := 0) (.tmp 8) (.tmp 24) (w.heap.size + 2) S8 ?_ ?_ ?_ ?_ ?_); rfl; rfl; rfl; rfl; intro w9 on9 S9))
    exact bodyPost_ret (results_six_tmp (p := 8) (q := 9) Tryz.results25 _ (.int .i64 1) rfl rfl S9) rfl ⟨none, 0, rfl, by unfold HeldT; exact ⟨none, 0, rfl⟩, below_only b0 on9 (by omega) b0.size⟩

set_option maxRecDepth 20000 in
set_option maxHeartbeats 12800000 in
theorem arNull (lang op : Int) (k : Int) (b : Bool) (n : Int) (t x : ByteArray) (q : List Val) (p : Option Addr) (cap : Nat) (k2 : Int) (b2 : Bool) (n2 : Int) (t2 x2 : ByteArray) (q2 : List Val) (p2 : Option Addr) (cap2 : Nat) (w : World) (ob m1 m2 : Bool) (ho : ∀ W, Calls Tryz.prog 59 #[.int .i64 op] W fun e w' => e = .returned (.bool ob) ∧ w' = W) (hc1 : ∀ W, Below w.heap.size w W → Calls Tryz.prog 13 #[.agg #[.int .i64 k, .bool b, .int .i64 n, .string t, .string x, .slice p q.length cap]] W fun e w' => e = .returned (.bool m1) ∧ Below W.heap.size W w') (hc2 : ∀ W, Below w.heap.size w W → Calls Tryz.prog 13 #[.agg #[.int .i64 k2, .bool b2, .int .i64 n2, .string t2, .string x2, .slice p2 q2.length cap2]] W fun e w' => e = .returned (.bool m2) ∧ Below W.heap.size W w') (h1 : ob = true) (h2 : m1 = true) (h3 : m2 = true) (z1 z2 l1 : Bool) (e1 : (k != 0) = z1) (e2 : (k2 != 0) = z2) (el : (lang == 1) = l1) (h : (z1 && z2) = false) :
    Calls Tryz.prog 25 #[.int .i64 lang, .int .i64 op, .agg #[.int .i64 k, .bool b, .int .i64 n, .string t, .string x, .slice p q.length cap], .agg #[.int .i64 k2, .bool b2, .int .i64 n2, .string t2, .string x2, .slice p2 q2.length cap2]] w (APost w 0 0 ⟨#[]⟩ [] (if l1 then 5 else 0)) := by
  obtain ⟨W0, hW0⟩ : ∃ W0, W0 = ((w.alloc (.cells #[.int .i64 k, .bool b, .int .i64 n, .string t, .string x, .slice p q.length cap] 28)).alloc (.cells #[.int .i64 k2, .bool b2, .int .i64 n2, .string t2, .string x2, .slice p2 q2.length cap2] 28)).alloc (.cells #[.int .i64 0, .bool false, .int .i64 0, .string ⟨#[]⟩, .string ⟨#[]⟩, .slice none 0 0] 28) := ⟨_, rfl⟩
  have S4 : Six W0 w.heap.size k b n t x p q.length cap := by rw [hW0]; exact ((six_new _ rfl).alloc _).alloc _
  have S5 : Six W0 (w.heap.size + 1) k2 b2 n2 t2 x2 p2 q2.length cap2 := by rw [hW0]; exact (six_new _ (by simp)).alloc _
  have S8 : Six W0 (w.heap.size + 2) 0 false 0 ⟨#[]⟩ ⟨#[]⟩ none 0 0 := by rw [hW0]; exact six_new _ (by simp)
  have b0 : Below w.heap.size w W0 := by rw [hW0]; exact below3 _ _ _ _
  have f0 := S4.c0
  have g0 := S5.c0
  have H0 := Lib.hid hW0
  clear hW0
  subst h1 h2 h3
  have hcs : (z1 = false ∧ l1 = true) ∨ (z1 = true ∧ z2 = false ∧ l1 = true) ∨ (z1 = false ∧ l1 = false) ∨ (z1 = true ∧ z2 = false ∧ l1 = false) := by cases z1 <;> cases z2 <;> cases l1 <;> simp at h ⊢
  clear h
  rcases hcs with ⟨rfl, rfl⟩ | ⟨rfl, rfl, rfl⟩ | ⟨rfl, rfl⟩ | ⟨rfl, rfl, rfl⟩
  · skip
    go_enter Tryz.func25, Tryz.ntmps25
    go_wp2_with (first
      | ((try rw [← H0.out]); (with_reducible refine wpList_load6 (.tmp 6) w.heap.size S4 ?_ ?_ ?_ ?_); rfl; rfl; rfl)
      | ((try rw [← H0.out]); (with_reducible refine wpList_load6g (.tmp 6) w.heap.size S4 ?_ ?_ ?_ ?_); rfl; rfl; rfl)
      | ((try rw [← H0.out]); (with_reducible refine wpList_load6 (.tmp 7) (w.heap.size + 1) S5 ?_ ?_ ?_ ?_); rfl; rfl; rfl)
      | ((try rw [← H0.out]); (with_reducible refine wpList_load6g (.tmp 7) (w.heap.size + 1) S5 ?_ ?_ ?_ ?_); rfl; rfl; rfl)
      | (go_at_call 59; (try rw [← H0.out]); (with_reducible refine (ho _).mono ?_); rintro e w' ⟨rfl, rfl⟩)
      | (go_at_call 13; (try rw [← H0.out]); (with_reducible refine (hc1 _ b0).mono ?_); rintro e w' ⟨rfl, hb⟩; replace S4 := S4.below hb; replace S5 := S5.below hb; replace S8 := S8.below hb; replace b0 := below_any b0 hb b0.size; have f0 := S4.c0; have g0 := S5.c0; clear hb)
      | (go_at_call 13; (try rw [← H0.out]); (with_reducible refine (hc2 _ b0).mono ?_); rintro e w' ⟨rfl, hb⟩; replace S4 := S4.below hb; replace S5 := S5.below hb; replace S8 := S8.below hb; replace b0 := below_any b0 hb b0.size; have f0 := S4.c0; have g0 := S5.c0; clear hb)
      | ((with_reducible refine wpList_store6 (k' := 0) (b' := false) (n' := 0) (t' := ⟨#[]⟩) (x' := ⟨#[]⟩) (p' := none) (len' := 0) (cap' := 0) (.tmp 8) (.tmp 44) (w.heap.size + 2) S8 ?_ ?_ ?_ ?_ ?_); rfl; rfl; rfl; rfl; intro w9 on9 S9))
    exact bodyPost_ret (results_six_tmp (p := 8) (q := 9) Tryz.results25 _ (.int .i64 5) rfl rfl S9) rfl ⟨none, 0, rfl, by unfold HeldT; exact ⟨none, 0, rfl⟩, below_only b0 on9 (by omega) b0.size⟩
  · skip
    go_enter Tryz.func25, Tryz.ntmps25
    go_wp2_with (first
      | ((try rw [← H0.out]); (with_reducible refine wpList_load6 (.tmp 6) w.heap.size S4 ?_ ?_ ?_ ?_); rfl; rfl; rfl)
      | ((try rw [← H0.out]); (with_reducible refine wpList_load6g (.tmp 6) w.heap.size S4 ?_ ?_ ?_ ?_); rfl; rfl; rfl)
      | ((try rw [← H0.out]); (with_reducible refine wpList_load6 (.tmp 7) (w.heap.size + 1) S5 ?_ ?_ ?_ ?_); rfl; rfl; rfl)
      | ((try rw [← H0.out]); (with_reducible refine wpList_load6g (.tmp 7) (w.heap.size + 1) S5 ?_ ?_ ?_ ?_); rfl; rfl; rfl)
      | (go_at_call 59; (try rw [← H0.out]); (with_reducible refine (ho _).mono ?_); rintro e w' ⟨rfl, rfl⟩)
      | (go_at_call 13; (try rw [← H0.out]); (with_reducible refine (hc1 _ b0).mono ?_); rintro e w' ⟨rfl, hb⟩; replace S4 := S4.below hb; replace S5 := S5.below hb; replace S8 := S8.below hb; replace b0 := below_any b0 hb b0.size; have f0 := S4.c0; have g0 := S5.c0; clear hb)
      | (go_at_call 13; (try rw [← H0.out]); (with_reducible refine (hc2 _ b0).mono ?_); rintro e w' ⟨rfl, hb⟩; replace S4 := S4.below hb; replace S5 := S5.below hb; replace S8 := S8.below hb; replace b0 := below_any b0 hb b0.size; have f0 := S4.c0; have g0 := S5.c0; clear hb)
      | ((with_reducible refine wpList_store6 (k' := 0) (b' := false) (n' := 0) (t' := ⟨#[]⟩) (x' := ⟨#[]⟩) (p' := none) (len' := 0) (cap' := 0) (.tmp 8) (.tmp 44) (w.heap.size + 2) S8 ?_ ?_ ?_ ?_ ?_); rfl; rfl; rfl; rfl; intro w9 on9 S9))
    exact bodyPost_ret (results_six_tmp (p := 8) (q := 9) Tryz.results25 _ (.int .i64 5) rfl rfl S9) rfl ⟨none, 0, rfl, by unfold HeldT; exact ⟨none, 0, rfl⟩, below_only b0 on9 (by omega) b0.size⟩
  · skip
    go_enter Tryz.func25, Tryz.ntmps25
    go_wp2_with (first
      | ((try rw [← H0.out]); (with_reducible refine wpList_load6 (.tmp 6) w.heap.size S4 ?_ ?_ ?_ ?_); rfl; rfl; rfl)
      | ((try rw [← H0.out]); (with_reducible refine wpList_load6g (.tmp 6) w.heap.size S4 ?_ ?_ ?_ ?_); rfl; rfl; rfl)
      | ((try rw [← H0.out]); (with_reducible refine wpList_load6 (.tmp 7) (w.heap.size + 1) S5 ?_ ?_ ?_ ?_); rfl; rfl; rfl)
      | ((try rw [← H0.out]); (with_reducible refine wpList_load6g (.tmp 7) (w.heap.size + 1) S5 ?_ ?_ ?_ ?_); rfl; rfl; rfl)
      | (go_at_call 59; (try rw [← H0.out]); (with_reducible refine (ho _).mono ?_); rintro e w' ⟨rfl, rfl⟩)
      | (go_at_call 13; (try rw [← H0.out]); (with_reducible refine (hc1 _ b0).mono ?_); rintro e w' ⟨rfl, hb⟩; replace S4 := S4.below hb; replace S5 := S5.below hb; replace S8 := S8.below hb; replace b0 := below_any b0 hb b0.size; have f0 := S4.c0; have g0 := S5.c0; clear hb)
      | (go_at_call 13; (try rw [← H0.out]); (with_reducible refine (hc2 _ b0).mono ?_); rintro e w' ⟨rfl, hb⟩; replace S4 := S4.below hb; replace S5 := S5.below hb; replace S8 := S8.below hb; replace b0 := below_any b0 hb b0.size; have f0 := S4.c0; have g0 := S5.c0; clear hb)
      | ((with_reducible refine wpList_store6 (k' := 0) (b' := false) (n' := 0) (t' := ⟨#[]⟩) (x' := ⟨#[]⟩) (p' := none) (len' := 0) (cap' := 0) (.tmp 8) (.tmp 45) (w.heap.size + 2) S8 ?_ ?_ ?_ ?_ ?_); rfl; rfl; rfl; rfl; intro w9 on9 S9))
    exact bodyPost_ret (results_six_tmp (p := 8) (q := 9) Tryz.results25 _ (.int .i64 0) rfl rfl S9) rfl ⟨none, 0, rfl, by unfold HeldT; exact ⟨none, 0, rfl⟩, below_only b0 on9 (by omega) b0.size⟩
  · skip
    go_enter Tryz.func25, Tryz.ntmps25
    go_wp2_with (first
      | ((try rw [← H0.out]); (with_reducible refine wpList_load6 (.tmp 6) w.heap.size S4 ?_ ?_ ?_ ?_); rfl; rfl; rfl)
      | ((try rw [← H0.out]); (with_reducible refine wpList_load6g (.tmp 6) w.heap.size S4 ?_ ?_ ?_ ?_); rfl; rfl; rfl)
      | ((try rw [← H0.out]); (with_reducible refine wpList_load6 (.tmp 7) (w.heap.size + 1) S5 ?_ ?_ ?_ ?_); rfl; rfl; rfl)
      | ((try rw [← H0.out]); (with_reducible refine wpList_load6g (.tmp 7) (w.heap.size + 1) S5 ?_ ?_ ?_ ?_); rfl; rfl; rfl)
      | (go_at_call 59; (try rw [← H0.out]); (with_reducible refine (ho _).mono ?_); rintro e w' ⟨rfl, rfl⟩)
      | (go_at_call 13; (try rw [← H0.out]); (with_reducible refine (hc1 _ b0).mono ?_); rintro e w' ⟨rfl, hb⟩; replace S4 := S4.below hb; replace S5 := S5.below hb; replace S8 := S8.below hb; replace b0 := below_any b0 hb b0.size; have f0 := S4.c0; have g0 := S5.c0; clear hb)
      | (go_at_call 13; (try rw [← H0.out]); (with_reducible refine (hc2 _ b0).mono ?_); rintro e w' ⟨rfl, hb⟩; replace S4 := S4.below hb; replace S5 := S5.below hb; replace S8 := S8.below hb; replace b0 := below_any b0 hb b0.size; have f0 := S4.c0; have g0 := S5.c0; clear hb)
      | ((with_reducible refine wpList_store6 (k' := 0) (b' := false) (n' := 0) (t' := ⟨#[]⟩) (x' := ⟨#[]⟩) (p' := none) (len' := 0) (cap' := 0) (.tmp 8) (.tmp 45) (w.heap.size + 2) S8 ?_ ?_ ?_ ?_ ?_); rfl; rfl; rfl; rfl; intro w9 on9 S9))
    exact bodyPost_ret (results_six_tmp (p := 8) (q := 9) Tryz.results25 _ (.int .i64 0) rfl rfl S9) rfl ⟨none, 0, rfl, by unfold HeldT; exact ⟨none, 0, rfl⟩, below_only b0 on9 (by omega) b0.size⟩

set_option maxRecDepth 20000 in
set_option maxHeartbeats 12800000 in
theorem arGo (lang op : Int) (k : Int) (b : Bool) (n : Int) (t x : ByteArray) (q : List Val) (p : Option Addr) (cap : Nat) (k2 : Int) (b2 : Bool) (n2 : Int) (t2 x2 : ByteArray) (q2 : List Val) (p2 : Option Addr) (cap2 : Nat) (w : World) (k9 n9 : Int) (t9 : ByteArray) (q9 : List Val) (e9 : Int) (ob m1 m2 : Bool) (ho : ∀ W, Calls Tryz.prog 59 #[.int .i64 op] W fun e w' => e = .returned (.bool ob) ∧ w' = W) (hc1 : ∀ W, Below w.heap.size w W → Calls Tryz.prog 13 #[.agg #[.int .i64 k, .bool b, .int .i64 n, .string t, .string x, .slice p q.length cap]] W fun e w' => e = .returned (.bool m1) ∧ Below W.heap.size W w') (hc2 : ∀ W, Below w.heap.size w W → Calls Tryz.prog 13 #[.agg #[.int .i64 k2, .bool b2, .int .i64 n2, .string t2, .string x2, .slice p2 q2.length cap2]] W fun e w' => e = .returned (.bool m2) ∧ Below W.heap.size W w') (h1 : ob = true) (h2 : m1 = true) (h3 : m2 = true) (e1 : (k != 0) = true) (e2 : (k2 != 0) = true) (hc : ∀ W, Below w.heap.size w W → Calls Tryz.prog 60 #[.int .i64 lang, .int .i64 op, .agg #[.int .i64 k, .bool b, .int .i64 n, .string t, .string x, .slice p q.length cap], .agg #[.int .i64 k2, .bool b2, .int .i64 n2, .string t2, .string x2, .slice p2 q2.length cap2]] W (APost W k9 n9 t9 q9 e9)) :
    Calls Tryz.prog 25 #[.int .i64 lang, .int .i64 op, .agg #[.int .i64 k, .bool b, .int .i64 n, .string t, .string x, .slice p q.length cap], .agg #[.int .i64 k2, .bool b2, .int .i64 n2, .string t2, .string x2, .slice p2 q2.length cap2]] w (APost w k9 n9 t9 q9 e9) := by
  obtain ⟨W0, hW0⟩ : ∃ W0, W0 = ((w.alloc (.cells #[.int .i64 k, .bool b, .int .i64 n, .string t, .string x, .slice p q.length cap] 28)).alloc (.cells #[.int .i64 k2, .bool b2, .int .i64 n2, .string t2, .string x2, .slice p2 q2.length cap2] 28)).alloc (.cells #[.int .i64 0, .bool false, .int .i64 0, .string ⟨#[]⟩, .string ⟨#[]⟩, .slice none 0 0] 28) := ⟨_, rfl⟩
  have S4 : Six W0 w.heap.size k b n t x p q.length cap := by rw [hW0]; exact ((six_new _ rfl).alloc _).alloc _
  have S5 : Six W0 (w.heap.size + 1) k2 b2 n2 t2 x2 p2 q2.length cap2 := by rw [hW0]; exact (six_new _ (by simp)).alloc _
  have S8 : Six W0 (w.heap.size + 2) 0 false 0 ⟨#[]⟩ ⟨#[]⟩ none 0 0 := by rw [hW0]; exact six_new _ (by simp)
  have b0 : Below w.heap.size w W0 := by rw [hW0]; exact below3 _ _ _ _
  have f0 := S4.c0
  have g0 := S5.c0
  have H0 := Lib.hid hW0
  clear hW0
  subst h1 h2 h3
  unfold APost at hc
  go_enter Tryz.func25, Tryz.ntmps25
  go_wp2_with (first
    | ((try rw [← H0.out]); (with_reducible refine wpList_load6 (.tmp 6) w.heap.size S4 ?_ ?_ ?_ ?_); rfl; rfl; rfl)
    | ((try rw [← H0.out]); (with_reducible refine wpList_load6g (.tmp 6) w.heap.size S4 ?_ ?_ ?_ ?_); rfl; rfl; rfl)
    | ((try rw [← H0.out]); (with_reducible refine wpList_load6 (.tmp 7) (w.heap.size + 1) S5 ?_ ?_ ?_ ?_); rfl; rfl; rfl)
    | ((try rw [← H0.out]); (with_reducible refine wpList_load6g (.tmp 7) (w.heap.size + 1) S5 ?_ ?_ ?_ ?_); rfl; rfl; rfl)
    | (go_at_call 59; (try rw [← H0.out]); (with_reducible refine (ho _).mono ?_); rintro e w' ⟨rfl, rfl⟩)
    | (go_at_call 13; (try rw [← H0.out]); (with_reducible refine (hc1 _ b0).mono ?_); rintro e w' ⟨rfl, hb⟩; replace S4 := S4.below hb; replace S5 := S5.below hb; replace S8 := S8.below hb; replace b0 := below_any b0 hb b0.size; have f0 := S4.c0; have g0 := S5.c0; clear hb)
    | (go_at_call 13; (try rw [← H0.out]); (with_reducible refine (hc2 _ b0).mono ?_); rintro e w' ⟨rfl, hb⟩; replace S4 := S4.below hb; replace S5 := S5.below hb; replace S8 := S8.below hb; replace b0 := below_any b0 hb b0.size; have f0 := S4.c0; have g0 := S5.c0; clear hb)
    | (go_at_call 60; (try rw [← H0.out]); (with_reducible refine (hc _ b0).mono ?_); rintro e w3 ⟨p3, c3, rfl, hq3, hb3⟩; have z3 := S8.lt; have T8 := S8.below hb3; have b3 := below_any b0 hb3 b0.size; have HQ := Lib.hid hq3; clear hq3)
    | ((with_reducible refine wpList_store6 (k' := k9) (b' := false) (n' := n9) (t' := t9) (x' := ⟨#[]⟩) (p' := p3) (len' := q9.length) (cap' := c3) (.tmp 8) (.tmp 39) (w.heap.size + 2) T8 ?_ ?_ ?_ ?_ ?_); rfl; rfl; rfl; rfl; intro w9 on9 S9))
  have s9 := on9.size
  refine bodyPost_ret (results_six_tmp (p := 8) (q := 9) Tryz.results25 _ (.int .i64 e9) rfl rfl S9) rfl ⟨p3, c3, rfl, ?_, below_only b3 on9 (by omega) b3.size⟩
  exact HeldT.wide (by omega) s9 q9 (HeldT.stays (fun i a c => on9.block i c (by omega)) q9 HQ.out)
end Go.Proofs.YtoifjjgakblhhaaGreatDoor

/- What Arith tells, by the document: what is refused, what is none, texts. -/
namespace Go.Proofs.YtoifjjgakblhhaaGreatDoor
open Go.RowKit

set_option maxRecDepth 20000 in
set_option maxHeartbeats 12800000 in
theorem rfBad (lang op : Int) (k : Int) (b : Bool) (n : Int) (t x : ByteArray) (q : List Val) (p : Option Addr) (cap : Nat) (k2 : Int) (b2 : Bool) (n2 : Int) (t2 x2 : ByteArray) (q2 : List Val) (p2 : Option Addr) (cap2 : Nat) (w : World) (m1 m2 : Bool) (hc1 : ∀ W, Below w.heap.size w W → Calls Tryz.prog 14 #[.agg #[.int .i64 k, .bool b, .int .i64 n, .string t, .string x, .slice p q.length cap]] W fun e w' => e = .returned (.bool m1) ∧ Below W.heap.size W w') (hc2 : ∀ W, Below w.heap.size w W → Calls Tryz.prog 14 #[.agg #[.int .i64 k2, .bool b2, .int .i64 n2, .string t2, .string x2, .slice p2 q2.length cap2]] W fun e w' => e = .returned (.bool m2) ∧ Below W.heap.size W w') (h0 : 16 ≤ op) (h9 : op ≤ 22) (h : (opB op && m1 && m2) = false) :
    Calls Tryz.prog 26 #[.int .i64 lang, .int .i64 op, .agg #[.int .i64 k, .bool b, .int .i64 n, .string t, .string x, .slice p q.length cap], .agg #[.int .i64 k2, .bool b2, .int .i64 n2, .string t2, .string x2, .slice p2 q2.length cap2]] w (APost w 0 0 ⟨#[]⟩ [] 1) := by
  obtain ⟨W0, hW0⟩ : ∃ W0, W0 = ((w.alloc (.cells #[.int .i64 k, .bool b, .int .i64 n, .string t, .string x, .slice p q.length cap] 28)).alloc (.cells #[.int .i64 k2, .bool b2, .int .i64 n2, .string t2, .string x2, .slice p2 q2.length cap2] 28)).alloc (.cells #[.int .i64 0, .bool false, .int .i64 0, .string ⟨#[]⟩, .string ⟨#[]⟩, .slice none 0 0] 28) := ⟨_, rfl⟩
  have S4 : Six W0 w.heap.size k b n t x p q.length cap := by rw [hW0]; exact ((six_new _ rfl).alloc _).alloc _
  have S5 : Six W0 (w.heap.size + 1) k2 b2 n2 t2 x2 p2 q2.length cap2 := by rw [hW0]; exact (six_new _ (by simp)).alloc _
  have S8 : Six W0 (w.heap.size + 2) 0 false 0 ⟨#[]⟩ ⟨#[]⟩ none 0 0 := by rw [hW0]; exact six_new _ (by simp)
  have b0 : Below w.heap.size w W0 := by rw [hW0]; exact below3 _ _ _ _
  have f0 := S4.c0
  have g0 := S5.c0
  have f2 := S4.c2
  have g2 := S5.c2
  have f3 := S4.c3
  have g3 := S5.c3
  have f5 := S4.c5
  have g5 := S5.c5
  have H0 := Lib.hid hW0
  clear hW0
  have hcs : m1 = false ∨ (m1 = true ∧ m2 = false) ∨ (m1 = true ∧ m2 = true ∧ op = 16) ∨ (m1 = true ∧ m2 = true ∧ op = 22) := by
    cases m1 <;> cases m2 <;> simp at h ⊢
    unfold opB at h
    simp at h
    omega
  clear h h0 h9
  rcases hcs with rfl | ⟨rfl, rfl⟩ | ⟨rfl, rfl, rfl⟩ | ⟨rfl, rfl, rfl⟩
  all_goals
    go_enter Tryz.func26, Tryz.ntmps26
    go_wp2_with (first
      | ((try rw [← H0.out]); (with_reducible refine wpList_load6 (.tmp 6) w.heap.size S4 ?_ ?_ ?_ ?_); rfl; rfl; rfl)
      | ((try rw [← H0.out]); (with_reducible refine wpList_load6g (.tmp 6) w.heap.size S4 ?_ ?_ ?_ ?_); rfl; rfl; rfl)
      | ((try rw [← H0.out]); (with_reducible refine wpList_load6 (.tmp 7) (w.heap.size + 1) S5 ?_ ?_ ?_ ?_); rfl; rfl; rfl)
      | ((try rw [← H0.out]); (with_reducible refine wpList_load6g (.tmp 7) (w.heap.size + 1) S5 ?_ ?_ ?_ ?_); rfl; rfl; rfl)
      | (go_at_call 14; (try rw [← H0.out]); (with_reducible refine (hc1 _ b0).mono ?_); rintro e w' ⟨rfl, hb⟩; replace S4 := S4.below hb; replace S5 := S5.below hb; replace S8 := S8.below hb; replace b0 := below_any b0 hb b0.size; have f0 := S4.c0; have g0 := S5.c0; have f2 := S4.c2; have g2 := S5.c2; have f3 := S4.c3; have g3 := S5.c3; have f5 := S4.c5; have g5 := S5.c5; clear hb)
      | (go_at_call 14; (try rw [← H0.out]); (with_reducible refine (hc2 _ b0).mono ?_); rintro e w' ⟨rfl, hb⟩; replace S4 := S4.below hb; replace S5 := S5.below hb; replace S8 := S8.below hb; replace b0 := below_any b0 hb b0.size; have f0 := S4.c0; have g0 := S5.c0; have f2 := S4.c2; have g2 := S5.c2; have f3 := S4.c3; have g3 := S5.c3; have f5 := S4.c5; have g5 := S5.c5; clear hb)
      | (go_at_call 45; (try rw [← H0.out]); (with_reducible refine (hn1 _).mono ?_); rintro e w' ⟨rfl, hb⟩; replace S4 := S4.below hb; replace S5 := S5.below hb; replace S8 := S8.below hb; replace b0 := below_any b0 hb b0.size; have f0 := S4.c0; have g0 := S5.c0; have f2 := S4.c2; have g2 := S5.c2; have f3 := S4.c3; have g3 := S5.c3; have f5 := S4.c5; have g5 := S5.c5; clear hb)
      | (go_at_call 45; (try rw [← H0.out]); (with_reducible refine (hn2 _).mono ?_); rintro e w' ⟨rfl, hb⟩; replace S4 := S4.below hb; replace S5 := S5.below hb; replace S8 := S8.below hb; replace b0 := below_any b0 hb b0.size; have f0 := S4.c0; have g0 := S5.c0; have f2 := S4.c2; have g2 := S5.c2; have f3 := S4.c3; have g3 := S5.c3; have f5 := S4.c5; have g5 := S5.c5; clear hb)
      | ((try rw [← H0.out]); (with_reducible refine wpList_store6 (k' := 0) (b' := false) (n' := 0) (t' := ⟨#[]⟩) (x' := ⟨#[]⟩) (p' := none) (len' := 0) (cap' := 0) (.tmp 8) (.tmp 38) (w.heap.size + 2) S8 ?_ ?_ ?_ ?_ ?_); rfl; rfl; rfl; rfl; intro w9 on9 S9))
    exact bodyPost_ret (results_six_tmp (p := 8) (q := 9) Tryz.results26 _ (.int .i64 1) rfl rfl S9) rfl ⟨none, 0, rfl, by unfold HeldT; exact ⟨none, 0, rfl⟩, below_only b0 on9 (by omega) b0.size⟩

set_option maxRecDepth 20000 in
set_option maxHeartbeats 12800000 in
theorem rfNull (lang op : Int) (k : Int) (b : Bool) (n : Int) (t x : ByteArray) (q : List Val) (p : Option Addr) (cap : Nat) (k2 : Int) (b2 : Bool) (n2 : Int) (t2 x2 : ByteArray) (q2 : List Val) (p2 : Option Addr) (cap2 : Nat) (w : World) (m1 m2 : Bool) (hc1 : ∀ W, Below w.heap.size w W → Calls Tryz.prog 14 #[.agg #[.int .i64 k, .bool b, .int .i64 n, .string t, .string x, .slice p q.length cap]] W fun e w' => e = .returned (.bool m1) ∧ Below W.heap.size W w') (hc2 : ∀ W, Below w.heap.size w W → Calls Tryz.prog 14 #[.agg #[.int .i64 k2, .bool b2, .int .i64 n2, .string t2, .string x2, .slice p2 q2.length cap2]] W fun e w' => e = .returned (.bool m2) ∧ Below W.heap.size W w') (e1 : m1 = true) (e2 : m2 = true) (hop : op = 17 ∨ op = 18 ∨ op = 19 ∨ op = 20 ∨ op = 21) (z1 z2 l1 : Bool) (ez1 : (k == 0) = z1) (ez2 : (k2 == 0) = z2) (el : (lang == 1) = l1) (h : (z1 || z2) = true) :
    Calls Tryz.prog 26 #[.int .i64 lang, .int .i64 op, .agg #[.int .i64 k, .bool b, .int .i64 n, .string t, .string x, .slice p q.length cap], .agg #[.int .i64 k2, .bool b2, .int .i64 n2, .string t2, .string x2, .slice p2 q2.length cap2]] w (APost w 0 0 ⟨#[]⟩ [] (if l1 then 5 else 0)) := by
  obtain ⟨W0, hW0⟩ : ∃ W0, W0 = ((w.alloc (.cells #[.int .i64 k, .bool b, .int .i64 n, .string t, .string x, .slice p q.length cap] 28)).alloc (.cells #[.int .i64 k2, .bool b2, .int .i64 n2, .string t2, .string x2, .slice p2 q2.length cap2] 28)).alloc (.cells #[.int .i64 0, .bool false, .int .i64 0, .string ⟨#[]⟩, .string ⟨#[]⟩, .slice none 0 0] 28) := ⟨_, rfl⟩
  have S4 : Six W0 w.heap.size k b n t x p q.length cap := by rw [hW0]; exact ((six_new _ rfl).alloc _).alloc _
  have S5 : Six W0 (w.heap.size + 1) k2 b2 n2 t2 x2 p2 q2.length cap2 := by rw [hW0]; exact (six_new _ (by simp)).alloc _
  have S8 : Six W0 (w.heap.size + 2) 0 false 0 ⟨#[]⟩ ⟨#[]⟩ none 0 0 := by rw [hW0]; exact six_new _ (by simp)
  have b0 : Below w.heap.size w W0 := by rw [hW0]; exact below3 _ _ _ _
  have f0 := S4.c0
  have g0 := S5.c0
  have f2 := S4.c2
  have g2 := S5.c2
  have f3 := S4.c3
  have g3 := S5.c3
  have f5 := S4.c5
  have g5 := S5.c5
  have H0 := Lib.hid hW0
  clear hW0
  subst e1 e2
  have hcs : (z1 = true ∧ l1 = true) ∨ (z1 = false ∧ z2 = true ∧ l1 = true) ∨ (z1 = true ∧ l1 = false) ∨ (z1 = false ∧ z2 = true ∧ l1 = false) := by cases z1 <;> cases z2 <;> cases l1 <;> simp at h ⊢
  clear h
  rcases hcs with ⟨rfl, rfl⟩ | ⟨rfl, rfl, rfl⟩ | ⟨rfl, rfl⟩ | ⟨rfl, rfl, rfl⟩
  · rcases hop with rfl | rfl | rfl | rfl | rfl
    all_goals
      go_enter Tryz.func26, Tryz.ntmps26
      go_wp2_with (first
        | ((try rw [← H0.out]); (with_reducible refine wpList_load6 (.tmp 6) w.heap.size S4 ?_ ?_ ?_ ?_); rfl; rfl; rfl)
        | ((try rw [← H0.out]); (with_reducible refine wpList_load6g (.tmp 6) w.heap.size S4 ?_ ?_ ?_ ?_); rfl; rfl; rfl)
        | ((try rw [← H0.out]); (with_reducible refine wpList_load6 (.tmp 7) (w.heap.size + 1) S5 ?_ ?_ ?_ ?_); rfl; rfl; rfl)
        | ((try rw [← H0.out]); (with_reducible refine wpList_load6g (.tmp 7) (w.heap.size + 1) S5 ?_ ?_ ?_ ?_); rfl; rfl; rfl)
        | (go_at_call 14; (try rw [← H0.out]); (with_reducible refine (hc1 _ b0).mono ?_); rintro e w' ⟨rfl, hb⟩; replace S4 := S4.below hb; replace S5 := S5.below hb; replace S8 := S8.below hb; replace b0 := below_any b0 hb b0.size; have f0 := S4.c0; have g0 := S5.c0; have f2 := S4.c2; have g2 := S5.c2; have f3 := S4.c3; have g3 := S5.c3; have f5 := S4.c5; have g5 := S5.c5; clear hb)
        | (go_at_call 14; (try rw [← H0.out]); (with_reducible refine (hc2 _ b0).mono ?_); rintro e w' ⟨rfl, hb⟩; replace S4 := S4.below hb; replace S5 := S5.below hb; replace S8 := S8.below hb; replace b0 := below_any b0 hb b0.size; have f0 := S4.c0; have g0 := S5.c0; have f2 := S4.c2; have g2 := S5.c2; have f3 := S4.c3; have g3 := S5.c3; have f5 := S4.c5; have g5 := S5.c5; clear hb)
        | (go_at_call 45; (try rw [← H0.out]); (with_reducible refine (hn1 _).mono ?_); rintro e w' ⟨rfl, hb⟩; replace S4 := S4.below hb; replace S5 := S5.below hb; replace S8 := S8.below hb; replace b0 := below_any b0 hb b0.size; have f0 := S4.c0; have g0 := S5.c0; have f2 := S4.c2; have g2 := S5.c2; have f3 := S4.c3; have g3 := S5.c3; have f5 := S4.c5; have g5 := S5.c5; clear hb)
        | (go_at_call 45; (try rw [← H0.out]); (with_reducible refine (hn2 _).mono ?_); rintro e w' ⟨rfl, hb⟩; replace S4 := S4.below hb; replace S5 := S5.below hb; replace S8 := S8.below hb; replace b0 := below_any b0 hb b0.size; have f0 := S4.c0; have g0 := S5.c0; have f2 := S4.c2; have g2 := S5.c2; have f3 := S4.c3; have g3 := S5.c3; have f5 := S4.c5; have g5 := S5.c5; clear hb)
        | ((try rw [← H0.out]); (with_reducible refine wpList_store6 (k' := 0) (b' := false) (n' := 0) (t' := ⟨#[]⟩) (x' := ⟨#[]⟩) (p' := none) (len' := 0) (cap' := 0) (.tmp 8) (.tmp 49) (w.heap.size + 2) S8 ?_ ?_ ?_ ?_ ?_); rfl; rfl; rfl; rfl; intro w9 on9 S9))
      exact bodyPost_ret (results_six_tmp (p := 8) (q := 9) Tryz.results26 _ (.int .i64 5) rfl rfl S9) rfl ⟨none, 0, rfl, by unfold HeldT; exact ⟨none, 0, rfl⟩, below_only b0 on9 (by omega) b0.size⟩
  · rcases hop with rfl | rfl | rfl | rfl | rfl
    all_goals
      go_enter Tryz.func26, Tryz.ntmps26
      go_wp2_with (first
        | ((try rw [← H0.out]); (with_reducible refine wpList_load6 (.tmp 6) w.heap.size S4 ?_ ?_ ?_ ?_); rfl; rfl; rfl)
        | ((try rw [← H0.out]); (with_reducible refine wpList_load6g (.tmp 6) w.heap.size S4 ?_ ?_ ?_ ?_); rfl; rfl; rfl)
        | ((try rw [← H0.out]); (with_reducible refine wpList_load6 (.tmp 7) (w.heap.size + 1) S5 ?_ ?_ ?_ ?_); rfl; rfl; rfl)
        | ((try rw [← H0.out]); (with_reducible refine wpList_load6g (.tmp 7) (w.heap.size + 1) S5 ?_ ?_ ?_ ?_); rfl; rfl; rfl)
        | (go_at_call 14; (try rw [← H0.out]); (with_reducible refine (hc1 _ b0).mono ?_); rintro e w' ⟨rfl, hb⟩; replace S4 := S4.below hb; replace S5 := S5.below hb; replace S8 := S8.below hb; replace b0 := below_any b0 hb b0.size; have f0 := S4.c0; have g0 := S5.c0; have f2 := S4.c2; have g2 := S5.c2; have f3 := S4.c3; have g3 := S5.c3; have f5 := S4.c5; have g5 := S5.c5; clear hb)
        | (go_at_call 14; (try rw [← H0.out]); (with_reducible refine (hc2 _ b0).mono ?_); rintro e w' ⟨rfl, hb⟩; replace S4 := S4.below hb; replace S5 := S5.below hb; replace S8 := S8.below hb; replace b0 := below_any b0 hb b0.size; have f0 := S4.c0; have g0 := S5.c0; have f2 := S4.c2; have g2 := S5.c2; have f3 := S4.c3; have g3 := S5.c3; have f5 := S4.c5; have g5 := S5.c5; clear hb)
        | (go_at_call 45; (try rw [← H0.out]); (with_reducible refine (hn1 _).mono ?_); rintro e w' ⟨rfl, hb⟩; replace S4 := S4.below hb; replace S5 := S5.below hb; replace S8 := S8.below hb; replace b0 := below_any b0 hb b0.size; have f0 := S4.c0; have g0 := S5.c0; have f2 := S4.c2; have g2 := S5.c2; have f3 := S4.c3; have g3 := S5.c3; have f5 := S4.c5; have g5 := S5.c5; clear hb)
        | (go_at_call 45; (try rw [← H0.out]); (with_reducible refine (hn2 _).mono ?_); rintro e w' ⟨rfl, hb⟩; replace S4 := S4.below hb; replace S5 := S5.below hb; replace S8 := S8.below hb; replace b0 := below_any b0 hb b0.size; have f0 := S4.c0; have g0 := S5.c0; have f2 := S4.c2; have g2 := S5.c2; have f3 := S4.c3; have g3 := S5.c3; have f5 := S4.c5; have g5 := S5.c5; clear hb)
        | ((try rw [← H0.out]); (with_reducible refine wpList_store6 (k' := 0) (b' := false) (n' := 0) (t' := ⟨#[]⟩) (x' := ⟨#[]⟩) (p' := none) (len' := 0) (cap' := 0) (.tmp 8) (.tmp 49) (w.heap.size + 2) S8 ?_ ?_ ?_ ?_ ?_); rfl; rfl; rfl; rfl; intro w9 on9 S9))
      exact bodyPost_ret (results_six_tmp (p := 8) (q := 9) Tryz.results26 _ (.int .i64 5) rfl rfl S9) rfl ⟨none, 0, rfl, by unfold HeldT; exact ⟨none, 0, rfl⟩, below_only b0 on9 (by omega) b0.size⟩
  · rcases hop with rfl | rfl | rfl | rfl | rfl
    all_goals
      go_enter Tryz.func26, Tryz.ntmps26
      go_wp2_with (first
        | ((try rw [← H0.out]); (with_reducible refine wpList_load6 (.tmp 6) w.heap.size S4 ?_ ?_ ?_ ?_); rfl; rfl; rfl)
        | ((try rw [← H0.out]); (with_reducible refine wpList_load6g (.tmp 6) w.heap.size S4 ?_ ?_ ?_ ?_); rfl; rfl; rfl)
        | ((try rw [← H0.out]); (with_reducible refine wpList_load6 (.tmp 7) (w.heap.size + 1) S5 ?_ ?_ ?_ ?_); rfl; rfl; rfl)
        | ((try rw [← H0.out]); (with_reducible refine wpList_load6g (.tmp 7) (w.heap.size + 1) S5 ?_ ?_ ?_ ?_); rfl; rfl; rfl)
        | (go_at_call 14; (try rw [← H0.out]); (with_reducible refine (hc1 _ b0).mono ?_); rintro e w' ⟨rfl, hb⟩; replace S4 := S4.below hb; replace S5 := S5.below hb; replace S8 := S8.below hb; replace b0 := below_any b0 hb b0.size; have f0 := S4.c0; have g0 := S5.c0; have f2 := S4.c2; have g2 := S5.c2; have f3 := S4.c3; have g3 := S5.c3; have f5 := S4.c5; have g5 := S5.c5; clear hb)
        | (go_at_call 14; (try rw [← H0.out]); (with_reducible refine (hc2 _ b0).mono ?_); rintro e w' ⟨rfl, hb⟩; replace S4 := S4.below hb; replace S5 := S5.below hb; replace S8 := S8.below hb; replace b0 := below_any b0 hb b0.size; have f0 := S4.c0; have g0 := S5.c0; have f2 := S4.c2; have g2 := S5.c2; have f3 := S4.c3; have g3 := S5.c3; have f5 := S4.c5; have g5 := S5.c5; clear hb)
        | (go_at_call 45; (try rw [← H0.out]); (with_reducible refine (hn1 _).mono ?_); rintro e w' ⟨rfl, hb⟩; replace S4 := S4.below hb; replace S5 := S5.below hb; replace S8 := S8.below hb; replace b0 := below_any b0 hb b0.size; have f0 := S4.c0; have g0 := S5.c0; have f2 := S4.c2; have g2 := S5.c2; have f3 := S4.c3; have g3 := S5.c3; have f5 := S4.c5; have g5 := S5.c5; clear hb)
        | (go_at_call 45; (try rw [← H0.out]); (with_reducible refine (hn2 _).mono ?_); rintro e w' ⟨rfl, hb⟩; replace S4 := S4.below hb; replace S5 := S5.below hb; replace S8 := S8.below hb; replace b0 := below_any b0 hb b0.size; have f0 := S4.c0; have g0 := S5.c0; have f2 := S4.c2; have g2 := S5.c2; have f3 := S4.c3; have g3 := S5.c3; have f5 := S4.c5; have g5 := S5.c5; clear hb)
        | ((try rw [← H0.out]); (with_reducible refine wpList_store6 (k' := 0) (b' := false) (n' := 0) (t' := ⟨#[]⟩) (x' := ⟨#[]⟩) (p' := none) (len' := 0) (cap' := 0) (.tmp 8) (.tmp 50) (w.heap.size + 2) S8 ?_ ?_ ?_ ?_ ?_); rfl; rfl; rfl; rfl; intro w9 on9 S9))
      exact bodyPost_ret (results_six_tmp (p := 8) (q := 9) Tryz.results26 _ (.int .i64 0) rfl rfl S9) rfl ⟨none, 0, rfl, by unfold HeldT; exact ⟨none, 0, rfl⟩, below_only b0 on9 (by omega) b0.size⟩
  · rcases hop with rfl | rfl | rfl | rfl | rfl
    all_goals
      go_enter Tryz.func26, Tryz.ntmps26
      go_wp2_with (first
        | ((try rw [← H0.out]); (with_reducible refine wpList_load6 (.tmp 6) w.heap.size S4 ?_ ?_ ?_ ?_); rfl; rfl; rfl)
        | ((try rw [← H0.out]); (with_reducible refine wpList_load6g (.tmp 6) w.heap.size S4 ?_ ?_ ?_ ?_); rfl; rfl; rfl)
        | ((try rw [← H0.out]); (with_reducible refine wpList_load6 (.tmp 7) (w.heap.size + 1) S5 ?_ ?_ ?_ ?_); rfl; rfl; rfl)
        | ((try rw [← H0.out]); (with_reducible refine wpList_load6g (.tmp 7) (w.heap.size + 1) S5 ?_ ?_ ?_ ?_); rfl; rfl; rfl)
        | (go_at_call 14; (try rw [← H0.out]); (with_reducible refine (hc1 _ b0).mono ?_); rintro e w' ⟨rfl, hb⟩; replace S4 := S4.below hb; replace S5 := S5.below hb; replace S8 := S8.below hb; replace b0 := below_any b0 hb b0.size; have f0 := S4.c0; have g0 := S5.c0; have f2 := S4.c2; have g2 := S5.c2; have f3 := S4.c3; have g3 := S5.c3; have f5 := S4.c5; have g5 := S5.c5; clear hb)
        | (go_at_call 14; (try rw [← H0.out]); (with_reducible refine (hc2 _ b0).mono ?_); rintro e w' ⟨rfl, hb⟩; replace S4 := S4.below hb; replace S5 := S5.below hb; replace S8 := S8.below hb; replace b0 := below_any b0 hb b0.size; have f0 := S4.c0; have g0 := S5.c0; have f2 := S4.c2; have g2 := S5.c2; have f3 := S4.c3; have g3 := S5.c3; have f5 := S4.c5; have g5 := S5.c5; clear hb)
        | (go_at_call 45; (try rw [← H0.out]); (with_reducible refine (hn1 _).mono ?_); rintro e w' ⟨rfl, hb⟩; replace S4 := S4.below hb; replace S5 := S5.below hb; replace S8 := S8.below hb; replace b0 := below_any b0 hb b0.size; have f0 := S4.c0; have g0 := S5.c0; have f2 := S4.c2; have g2 := S5.c2; have f3 := S4.c3; have g3 := S5.c3; have f5 := S4.c5; have g5 := S5.c5; clear hb)
        | (go_at_call 45; (try rw [← H0.out]); (with_reducible refine (hn2 _).mono ?_); rintro e w' ⟨rfl, hb⟩; replace S4 := S4.below hb; replace S5 := S5.below hb; replace S8 := S8.below hb; replace b0 := below_any b0 hb b0.size; have f0 := S4.c0; have g0 := S5.c0; have f2 := S4.c2; have g2 := S5.c2; have f3 := S4.c3; have g3 := S5.c3; have f5 := S4.c5; have g5 := S5.c5; clear hb)
        | ((try rw [← H0.out]); (with_reducible refine wpList_store6 (k' := 0) (b' := false) (n' := 0) (t' := ⟨#[]⟩) (x' := ⟨#[]⟩) (p' := none) (len' := 0) (cap' := 0) (.tmp 8) (.tmp 50) (w.heap.size + 2) S8 ?_ ?_ ?_ ?_ ?_); rfl; rfl; rfl; rfl; intro w9 on9 S9))
      exact bodyPost_ret (results_six_tmp (p := 8) (q := 9) Tryz.results26 _ (.int .i64 0) rfl rfl S9) rfl ⟨none, 0, rfl, by unfold HeldT; exact ⟨none, 0, rfl⟩, below_only b0 on9 (by omega) b0.size⟩
end Go.Proofs.YtoifjjgakblhhaaGreatDoor
