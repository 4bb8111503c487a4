/- Texts of one kind, one behind the other: each says ahead of itself what it shows. -/
import Derived.Test.YtoifjjgakblhhaaGreatDoorHau
import Derived.Test.YtoifjjgakblhhaaGreatDoorHaz
import Derived.Test.YtoifjjgakblhhaaGreatDoorHba
import Derived.Test.YtoifjjgakblhhaaGreatDoorHak
/- What two values make, by the program: all the ways of reckon. -/
namespace Go.Proofs.YtoifjjgakblhhaaGreatDoor
open Go.RowKit

/-- A value, whose lists lie apart in new blocks, and a word of error. -/
def APost (w : World) (k n : Int) (t : ByteArray) (q : List Val) (e9 : Int) (e : Ending) (w' : World) : Prop :=
  ∃ p c, e = .returned (.tuple #[.agg #[.int .i64 k, .bool false, .int .i64 n, .string t, .string ⟨#[]⟩, .slice p q.length c], .int .i64 e9]) ∧ HeldT w' w.heap.size w'.heap.size (.slice p q.length c) q ∧ Below w.heap.size w w'
theorem APost.of {w : World} {k n : Int} {t : ByteArray} {e9 : Int} {e : Ending} {w' : World} (h : RPost w k n t e9 e w') : APost w k n t [] e9 e w' :=
  ⟨none, 0, h.1, by unfold HeldT; exact ⟨none, 0, rfl⟩, h.2⟩
theorem APost.ofJoin {w : World} {la lb : List Val} {e : Ending} {w' : World} (h : JoinT w la lb e w') : APost w 5 0 ⟨#[]⟩ (la ++ lb) 0 e w' := by
  obtain ⟨p, c, h1, h2, h3⟩ := h
  unfold APost
  rw [List.length_append]
  exact ⟨p, c, h1, h2, h3⟩
theorem wp_store6 {op : Oper} {a : Act} {w : World} {K : Act → World → Prop} {Q : Exit → Act → World → Prop} {k : Int} {b : Bool} {n : Int} {t x : ByteArray} {p : Option Addr} {len cap : Nat}
    {k' : Int} {b' : Bool} {n' : Int} {t' x' : ByteArray} {p' : Option Addr} {len' cap' : Nat} (y z : Operand) (ho : op.op = .store 28 y z) (g : Nat) (hg : Six w g k b n t x p len cap)
    (hx : a.eval y = .pointer (some ⟨g, 0, none⟩)) (hy : a.eval z = .agg #[.int .i64 k', .bool b', .int .i64 n', .string t', .string x', .slice p' len' cap'])
    (h : ∀ w', Only g w w' → Six w' g k' b' n' t' x' p' len' cap' → K (a.put op.dst undef) w') : op.wp Tryz.prog a w K Q := by
  unfold Oper.wp execOp
  simp only [ho, hx, hy, Instr.storeAt, Instr.sureAddr, Sem.run_bind, Sem.run_pure, Result.andThen_ok, run_storeVar_row (P := Tryz.prog) w g 28 28 _ #[.int .i64 k', .bool b', .int .i64 n', .string t', .string x', .slice p' len' cap'] hg info28 rfl (by simp [Value.oneCell'])]
  exact h _ (Only.setRow w _) (heap_setRow hg)

set_option maxRecDepth 20000 in
set_option maxHeartbeats 12800000 in
theorem rkTexts (lang op : Int) (k : Int) (b : Bool) (n : Int) (t x : ByteArray) (q : List Val) (p : Option Addr) (cap : Nat) (k2 : Int) (b2 : Bool) (n2 : Int) (t2 x2 : ByteArray) (q2 : List Val) (p2 : Option Addr) (cap2 : Nat) (w : World) (k9 n9 : Int) (t9 : ByteArray) (q9 : List Val) (e9 : Int) (jl jo o20 x4 x5 x2' n1' n2' : Bool) (el : (lang != 1) = jl) (eo : (op == 17) = jo) (e20 : (op != 20) = o20) (y4 : (k == 4 && k2 == 4) = x4) (y5 : (k == 5 && k2 == 5) = x5) (y2 : (k == 2 && k2 == 2) = x2') (m1 : (k == 2 || k == 3) = n1') (m2 : (k2 == 2 || k2 == 3) = n2') (c1 : jl = true) (c2 : jo = true) (c3' : x4 = true) (hc : ∀ W, Below w.heap.size w W → Calls Tryz.prog 99 #[.string t, .string t2] W (APost W k9 n9 t9 q9 e9)) :
    Calls Tryz.prog 60 #[.int .i64 lang, .int .i64 op, .agg #[.int .i64 k, .bool b, .int .i64 n, .string t, .string x, .slice p q.length cap], .agg #[.int .i64 k2, .bool b2, .int .i64 n2, .string t2, .string x2, .slice p2 q2.length cap2]] w (APost w k9 n9 t9 q9 e9) := by
  subst c1 c2 c3'
  unfold APost at hc
  obtain ⟨W0, hW0⟩ : ∃ W0, W0 = ((w.alloc (.cells #[.int .i64 k, .bool b, .int .i64 n, .string t, .string x, .slice p q.length cap] 28)).alloc (.cells #[.int .i64 k2, .bool b2, .int .i64 n2, .string t2, .string x2, .slice p2 q2.length cap2] 28)).alloc (.cells #[.int .i64 0, .bool false, .int .i64 0, .string ⟨#[]⟩, .string ⟨#[]⟩, .slice none 0 0] 28) := ⟨_, rfl⟩
  have S4 : Six W0 w.heap.size k b n t x p q.length cap := by rw [hW0]; exact ((six_new _ rfl).alloc _).alloc _
  have S5 : Six W0 (w.heap.size + 1) k2 b2 n2 t2 x2 p2 q2.length cap2 := by rw [hW0]; exact (six_new _ (by simp)).alloc _
  have S8 : Six W0 (w.heap.size + 2) 0 false 0 ⟨#[]⟩ ⟨#[]⟩ none 0 0 := by rw [hW0]; exact six_new _ (by simp)
  have b0 : Below w.heap.size w W0 := by rw [hW0]; exact below3 _ _ _ _
  have h4 := fun W => bothAreAt 4 k b n t x (.slice p q.length cap) k2 b2 n2 t2 x2 (.slice p2 q2.length cap2) W
  have h5 := fun W => bothAreAt 5 k b n t x (.slice p q.length cap) k2 b2 n2 t2 x2 (.slice p2 q2.length cap2) W
  have h2 := fun W => bothAreAt 2 k b n t x (.slice p q.length cap) k2 b2 n2 t2 x2 (.slice p2 q2.length cap2) W
  have hn1 := fun W => isNumberAt k b n t x (.slice p q.length cap) W
  have hn2 := fun W => isNumberAt k2 b2 n2 t2 x2 (.slice p2 q2.length cap2) W
  rw [y4] at h4
  rw [y5] at h5
  rw [y2] at h2
  rw [m1] at hn1
  rw [m2] at hn2
  have f2 := S4.c2
  have g2 := S5.c2
  have f3 := S4.c3
  have g3 := S5.c3
  have f5 := S4.c5
  have g5 := S5.c5
  have H0 := Lib.hid hW0
  clear hW0 y4 y5 y2 m1 m2
  go_enter Tryz.func60, Tryz.ntmps60
  go_wp2_with (first
    | ((try rw [← H0.out]); (with_reducible refine wpList_load6 (.tmp 6) w.heap.size S4 ?_ ?_ ?_ ?_); rfl; rfl; rfl)
    | ((try rw [← H0.out]); (with_reducible refine wpList_load6g (.tmp 6) w.heap.size S4 ?_ ?_ ?_ ?_); rfl; rfl; rfl)
    | ((try rw [← H0.out]); (with_reducible refine wpList_load6 (.tmp 7) (w.heap.size + 1) S5 ?_ ?_ ?_ ?_); rfl; rfl; rfl)
    | ((try rw [← H0.out]); (with_reducible refine wpList_load6g (.tmp 7) (w.heap.size + 1) S5 ?_ ?_ ?_ ?_); rfl; rfl; rfl)
    | (go_at_call 53; (try rw [← H0.out]); (with_reducible refine (h4 _).mono ?_); rintro e w' ⟨rfl, hb⟩; replace S4 := S4.below hb; replace S5 := S5.below hb; replace S8 := S8.below hb; replace b0 := below_any b0 hb b0.size; have f2 := S4.c2; have g2 := S5.c2; have f3 := S4.c3; have g3 := S5.c3; have f5 := S4.c5; have g5 := S5.c5; clear hb)
    | (go_at_call 53; (try rw [← H0.out]); (with_reducible refine (h5 _).mono ?_); rintro e w' ⟨rfl, hb⟩; replace S4 := S4.below hb; replace S5 := S5.below hb; replace S8 := S8.below hb; replace b0 := below_any b0 hb b0.size; have f2 := S4.c2; have g2 := S5.c2; have f3 := S4.c3; have g3 := S5.c3; have f5 := S4.c5; have g5 := S5.c5; clear hb)
    | (go_at_call 53; (try rw [← H0.out]); (with_reducible refine (h2 _).mono ?_); rintro e w' ⟨rfl, hb⟩; replace S4 := S4.below hb; replace S5 := S5.below hb; replace S8 := S8.below hb; replace b0 := below_any b0 hb b0.size; have f2 := S4.c2; have g2 := S5.c2; have f3 := S4.c3; have g3 := S5.c3; have f5 := S4.c5; have g5 := S5.c5; clear hb)
    | (go_at_call 50; (try rw [← H0.out]); (with_reducible refine (hn1 _).mono ?_); rintro e w' ⟨rfl, hb⟩; replace S4 := S4.below hb; replace S5 := S5.below hb; replace S8 := S8.below hb; replace b0 := below_any b0 hb b0.size; have f2 := S4.c2; have g2 := S5.c2; have f3 := S4.c3; have g3 := S5.c3; have f5 := S4.c5; have g5 := S5.c5; clear hb)
    | (go_at_call 50; (try rw [← H0.out]); (with_reducible refine (hn2 _).mono ?_); rintro e w' ⟨rfl, hb⟩; replace S4 := S4.below hb; replace S5 := S5.below hb; replace S8 := S8.below hb; replace b0 := below_any b0 hb b0.size; have f2 := S4.c2; have g2 := S5.c2; have f3 := S4.c3; have g3 := S5.c3; have f5 := S4.c5; have g5 := S5.c5; clear hb)
    | (go_at_call 99; (try rw [← H0.out]); (with_reducible refine (hc _ b0).mono ?_); rintro e w3 ⟨p3, c3, rfl, hq3, hb3⟩; have z3 := S8.lt; have T8 := S8.below hb3; have b3 := below_any b0 hb3 b0.size; have HQ := Lib.hid hq3; clear hq3)
    | ((with_reducible refine wpList_store6 (k' := k9) (b' := false) (n' := n9) (t' := t9) (x' := ⟨#[]⟩) (p' := p3) (len' := q9.length) (cap' := c3) (.tmp 8) (.tmp 29) (w.heap.size + 2) T8 ?_ ?_ ?_ ?_ ?_); rfl; rfl; rfl; rfl; intro w9 on9 S9))
  have s9 := on9.size
  refine bodyPost_ret (results_six_tmp (p := 8) (q := 9) Tryz.results60 _ (.int .i64 e9) rfl rfl S9) rfl ⟨p3, c3, rfl, ?_, below_only b3 on9 (by omega) b3.size⟩
  exact HeldT.wide (by omega) s9 q9 (HeldT.stays (fun i a c => on9.block i c (by omega)) q9 HQ.out)

set_option maxRecDepth 20000 in
set_option maxHeartbeats 12800000 in
theorem rkLists (lang op : Int) (k : Int) (b : Bool) (n : Int) (t x : ByteArray) (q : List Val) (p : Option Addr) (cap : Nat) (k2 : Int) (b2 : Bool) (n2 : Int) (t2 x2 : ByteArray) (q2 : List Val) (p2 : Option Addr) (cap2 : Nat) (w : World) (k9 n9 : Int) (t9 : ByteArray) (q9 : List Val) (e9 : Int) (jl jo o20 x4 x5 x2' n1' n2' : Bool) (el : (lang != 1) = jl) (eo : (op == 17) = jo) (e20 : (op != 20) = o20) (y4 : (k == 4 && k2 == 4) = x4) (y5 : (k == 5 && k2 == 5) = x5) (y2 : (k == 2 && k2 == 2) = x2') (m1 : (k == 2 || k == 3) = n1') (m2 : (k2 == 2 || k2 == 3) = n2') (c1 : jl = true) (c2 : jo = true) (c3' : x4 = false) (c4 : x5 = true) (hc : ∀ W, Below w.heap.size w W → Calls Tryz.prog 100 #[.slice p q.length cap, .slice p2 q2.length cap2] W (APost W k9 n9 t9 q9 e9)) :
    Calls Tryz.prog 60 #[.int .i64 lang, .int .i64 op, .agg #[.int .i64 k, .bool b, .int .i64 n, .string t, .string x, .slice p q.length cap], .agg #[.int .i64 k2, .bool b2, .int .i64 n2, .string t2, .string x2, .slice p2 q2.length cap2]] w (APost w k9 n9 t9 q9 e9) := by
  subst c1 c2 c3' c4
  unfold APost at hc
  obtain ⟨W0, hW0⟩ : ∃ W0, W0 = ((w.alloc (.cells #[.int .i64 k, .bool b, .int .i64 n, .string t, .string x, .slice p q.length cap] 28)).alloc (.cells #[.int .i64 k2, .bool b2, .int .i64 n2, .string t2, .string x2, .slice p2 q2.length cap2] 28)).alloc (.cells #[.int .i64 0, .bool false, .int .i64 0, .string ⟨#[]⟩, .string ⟨#[]⟩, .slice none 0 0] 28) := ⟨_, rfl⟩
  have S4 : Six W0 w.heap.size k b n t x p q.length cap := by rw [hW0]; exact ((six_new _ rfl).alloc _).alloc _
  have S5 : Six W0 (w.heap.size + 1) k2 b2 n2 t2 x2 p2 q2.length cap2 := by rw [hW0]; exact (six_new _ (by simp)).alloc _
  have S8 : Six W0 (w.heap.size + 2) 0 false 0 ⟨#[]⟩ ⟨#[]⟩ none 0 0 := by rw [hW0]; exact six_new _ (by simp)
  have b0 : Below w.heap.size w W0 := by rw [hW0]; exact below3 _ _ _ _
  have h4 := fun W => bothAreAt 4 k b n t x (.slice p q.length cap) k2 b2 n2 t2 x2 (.slice p2 q2.length cap2) W
  have h5 := fun W => bothAreAt 5 k b n t x (.slice p q.length cap) k2 b2 n2 t2 x2 (.slice p2 q2.length cap2) W
  have h2 := fun W => bothAreAt 2 k b n t x (.slice p q.length cap) k2 b2 n2 t2 x2 (.slice p2 q2.length cap2) W
  have hn1 := fun W => isNumberAt k b n t x (.slice p q.length cap) W
  have hn2 := fun W => isNumberAt k2 b2 n2 t2 x2 (.slice p2 q2.length cap2) W
  rw [y4] at h4
  rw [y5] at h5
  rw [y2] at h2
  rw [m1] at hn1
  rw [m2] at hn2
  have f2 := S4.c2
  have g2 := S5.c2
  have f3 := S4.c3
  have g3 := S5.c3
  have f5 := S4.c5
  have g5 := S5.c5
  have H0 := Lib.hid hW0
  clear hW0 y4 y5 y2 m1 m2
  go_enter Tryz.func60, Tryz.ntmps60
  go_wp2_with (first
    | ((try rw [← H0.out]); (with_reducible refine wpList_load6 (.tmp 6) w.heap.size S4 ?_ ?_ ?_ ?_); rfl; rfl; rfl)
    | ((try rw [← H0.out]); (with_reducible refine wpList_load6g (.tmp 6) w.heap.size S4 ?_ ?_ ?_ ?_); rfl; rfl; rfl)
    | ((try rw [← H0.out]); (with_reducible refine wpList_load6 (.tmp 7) (w.heap.size + 1) S5 ?_ ?_ ?_ ?_); rfl; rfl; rfl)
    | ((try rw [← H0.out]); (with_reducible refine wpList_load6g (.tmp 7) (w.heap.size + 1) S5 ?_ ?_ ?_ ?_); rfl; rfl; rfl)
    | (go_at_call 53; (try rw [← H0.out]); (with_reducible refine (h4 _).mono ?_); rintro e w' ⟨rfl, hb⟩; replace S4 := S4.below hb; replace S5 := S5.below hb; replace S8 := S8.below hb; replace b0 := below_any b0 hb b0.size; have f2 := S4.c2; have g2 := S5.c2; have f3 := S4.c3; have g3 := S5.c3; have f5 := S4.c5; have g5 := S5.c5; clear hb)
    | (go_at_call 53; (try rw [← H0.out]); (with_reducible refine (h5 _).mono ?_); rintro e w' ⟨rfl, hb⟩; replace S4 := S4.below hb; replace S5 := S5.below hb; replace S8 := S8.below hb; replace b0 := below_any b0 hb b0.size; have f2 := S4.c2; have g2 := S5.c2; have f3 := S4.c3; have g3 := S5.c3; have f5 := S4.c5; have g5 := S5.c5; clear hb)
    | (go_at_call 53; (try rw [← H0.out]); (with_reducible refine (h2 _).mono ?_); rintro e w' ⟨rfl, hb⟩; replace S4 := S4.below hb; replace S5 := S5.below hb; replace S8 := S8.below hb; replace b0 := below_any b0 hb b0.size; have f2 := S4.c2; have g2 := S5.c2; have f3 := S4.c3; have g3 := S5.c3; have f5 := S4.c5; have g5 := S5.c5; clear hb)
    | (go_at_call 50; (try rw [← H0.out]); (with_reducible refine (hn1 _).mono ?_); rintro e w' ⟨rfl, hb⟩; replace S4 := S4.below hb; replace S5 := S5.below hb; replace S8 := S8.below hb; replace b0 := below_any b0 hb b0.size; have f2 := S4.c2; have g2 := S5.c2; have f3 := S4.c3; have g3 := S5.c3; have f5 := S4.c5; have g5 := S5.c5; clear hb)
    | (go_at_call 50; (try rw [← H0.out]); (with_reducible refine (hn2 _).mono ?_); rintro e w' ⟨rfl, hb⟩; replace S4 := S4.below hb; replace S5 := S5.below hb; replace S8 := S8.below hb; replace b0 := below_any b0 hb b0.size; have f2 := S4.c2; have g2 := S5.c2; have f3 := S4.c3; have g3 := S5.c3; have f5 := S4.c5; have g5 := S5.c5; clear hb)
    | (go_at_call 100; (try rw [← H0.out]); (with_reducible refine (hc _ b0).mono ?_); rintro e w3 ⟨p3, c3, rfl, hq3, hb3⟩; have z3 := S8.lt; have T8 := S8.below hb3; have b3 := below_any b0 hb3 b0.size; have HQ := Lib.hid hq3; clear hq3)
    | ((with_reducible refine wpList_store6 (k' := k9) (b' := false) (n' := n9) (t' := t9) (x' := ⟨#[]⟩) (p' := p3) (len' := q9.length) (cap' := c3) (.tmp 8) (.tmp 43) (w.heap.size + 2) T8 ?_ ?_ ?_ ?_ ?_); rfl; rfl; rfl; rfl; intro w9 on9 S9))
  have s9 := on9.size
  refine bodyPost_ret (results_six_tmp (p := 8) (q := 9) Tryz.results60 _ (.int .i64 e9) rfl rfl S9) rfl ⟨p3, c3, rfl, ?_, below_only b3 on9 (by omega) b3.size⟩
  exact HeldT.wide (by omega) s9 q9 (HeldT.stays (fun i a c => on9.block i c (by omega)) q9 HQ.out)

set_option maxRecDepth 20000 in
set_option maxHeartbeats 12800000 in
theorem rkNone (lang op : Int) (k : Int) (b : Bool) (n : Int) (t x : ByteArray) (q : List Val) (p : Option Addr) (cap : Nat) (k2 : Int) (b2 : Bool) (n2 : Int) (t2 x2 : ByteArray) (q2 : List Val) (p2 : Option Addr) (cap2 : Nat) (w : World) (jl jo o20 x4 x5 x2' n1' n2' : Bool) (el : (lang != 1) = jl) (eo : (op == 17) = jo) (e20 : (op != 20) = o20) (y4 : (k == 4 && k2 == 4) = x4) (y5 : (k == 5 && k2 == 5) = x5) (y2 : (k == 2 && k2 == 2) = x2') (m1 : (k == 2 || k == 3) = n1') (m2 : (k2 == 2 || k2 == 3) = n2') (hc1 : (jl && jo && x4) = false) (hc2 : (jl && jo && x5) = false) (hc3 : (n1' && n2') = false) :
    Calls Tryz.prog 60 #[.int .i64 lang, .int .i64 op, .agg #[.int .i64 k, .bool b, .int .i64 n, .string t, .string x, .slice p q.length cap], .agg #[.int .i64 k2, .bool b2, .int .i64 n2, .string t2, .string x2, .slice p2 q2.length cap2]] w (APost w 0 0 ⟨#[]⟩ [] 4) := by
  obtain ⟨W0, hW0⟩ : ∃ W0, W0 = ((w.alloc (.cells #[.int .i64 k, .bool b, .int .i64 n, .string t, .string x, .slice p q.length cap] 28)).alloc (.cells #[.int .i64 k2, .bool b2, .int .i64 n2, .string t2, .string x2, .slice p2 q2.length cap2] 28)).alloc (.cells #[.int .i64 0, .bool false, .int .i64 0, .string ⟨#[]⟩, .string ⟨#[]⟩, .slice none 0 0] 28) := ⟨_, rfl⟩
  have S4 : Six W0 w.heap.size k b n t x p q.length cap := by rw [hW0]; exact ((six_new _ rfl).alloc _).alloc _
  have S5 : Six W0 (w.heap.size + 1) k2 b2 n2 t2 x2 p2 q2.length cap2 := by rw [hW0]; exact (six_new _ (by simp)).alloc _
  have S8 : Six W0 (w.heap.size + 2) 0 false 0 ⟨#[]⟩ ⟨#[]⟩ none 0 0 := by rw [hW0]; exact six_new _ (by simp)
  have b0 : Below w.heap.size w W0 := by rw [hW0]; exact below3 _ _ _ _
  have h4 := fun W => bothAreAt 4 k b n t x (.slice p q.length cap) k2 b2 n2 t2 x2 (.slice p2 q2.length cap2) W
  have h5 := fun W => bothAreAt 5 k b n t x (.slice p q.length cap) k2 b2 n2 t2 x2 (.slice p2 q2.length cap2) W
  have h2 := fun W => bothAreAt 2 k b n t x (.slice p q.length cap) k2 b2 n2 t2 x2 (.slice p2 q2.length cap2) W
  have hn1 := fun W => isNumberAt k b n t x (.slice p q.length cap) W
  have hn2 := fun W => isNumberAt k2 b2 n2 t2 x2 (.slice p2 q2.length cap2) W
  rw [y4] at h4
  rw [y5] at h5
  rw [y2] at h2
  rw [m1] at hn1
  rw [m2] at hn2
  have f2 := S4.c2
  have g2 := S5.c2
  have f3 := S4.c3
  have g3 := S5.c3
  have f5 := S4.c5
  have g5 := S5.c5
  have H0 := Lib.hid hW0
  clear hW0 y4 y5 y2 m1 m2
  cases jl <;> cases jo <;> cases x4 <;> cases x5 <;> cases n1' <;> cases n2' <;> (first | (exfalso; revert hc1; decide) | (exfalso; revert hc2; decide) | (exfalso; revert hc3; decide) | skip)
  all_goals
    clear hc1 hc2 hc3
    go_enter Tryz.func60, Tryz.ntmps60
    go_wp2_with (first
      | ((try rw [← H0.out]); (with_reducible refine wpList_load6 (.tmp 6) w.heap.size S4 ?_ ?_ ?_ ?_); rfl; rfl; rfl)
      | ((try rw [← H0.out]); (with_reducible refine wpList_load6g (.tmp 6) w.heap.size S4 ?_ ?_ ?_ ?_); rfl; rfl; rfl)
      | ((try rw [← H0.out]); (with_reducible refine wpList_load6 (.tmp 7) (w.heap.size + 1) S5 ?_ ?_ ?_ ?_); rfl; rfl; rfl)
      | ((try rw [← H0.out]); (with_reducible refine wpList_load6g (.tmp 7) (w.heap.size + 1) S5 ?_ ?_ ?_ ?_); rfl; rfl; rfl)
      | (go_at_call 53; (try rw [← H0.out]); (with_reducible refine (h4 _).mono ?_); rintro e w' ⟨rfl, hb⟩; replace S4 := S4.below hb; replace S5 := S5.below hb; replace S8 := S8.below hb; replace b0 := below_any b0 hb b0.size; have f2 := S4.c2; have g2 := S5.c2; have f3 := S4.c3; have g3 := S5.c3; have f5 := S4.c5; have g5 := S5.c5; clear hb)
      | (go_at_call 53; (try rw [← H0.out]); (with_reducible refine (h5 _).mono ?_); rintro e w' ⟨rfl, hb⟩; replace S4 := S4.below hb; replace S5 := S5.below hb; replace S8 := S8.below hb; replace b0 := below_any b0 hb b0.size; have f2 := S4.c2; have g2 := S5.c2; have f3 := S4.c3; have g3 := S5.c3; have f5 := S4.c5; have g5 := S5.c5; clear hb)
      | (go_at_call 53; (try rw [← H0.out]); (with_reducible refine (h2 _).mono ?_); rintro e w' ⟨rfl, hb⟩; replace S4 := S4.below hb; replace S5 := S5.below hb; replace S8 := S8.below hb; replace b0 := below_any b0 hb b0.size; have f2 := S4.c2; have g2 := S5.c2; have f3 := S4.c3; have g3 := S5.c3; have f5 := S4.c5; have g5 := S5.c5; clear hb)
      | (go_at_call 50; (try rw [← H0.out]); (with_reducible refine (hn1 _).mono ?_); rintro e w' ⟨rfl, hb⟩; replace S4 := S4.below hb; replace S5 := S5.below hb; replace S8 := S8.below hb; replace b0 := below_any b0 hb b0.size; have f2 := S4.c2; have g2 := S5.c2; have f3 := S4.c3; have g3 := S5.c3; have f5 := S4.c5; have g5 := S5.c5; clear hb)
      | (go_at_call 50; (try rw [← H0.out]); (with_reducible refine (hn2 _).mono ?_); rintro e w' ⟨rfl, hb⟩; replace S4 := S4.below hb; replace S5 := S5.below hb; replace S8 := S8.below hb; replace b0 := below_any b0 hb b0.size; have f2 := S4.c2; have g2 := S5.c2; have f3 := S4.c3; have g3 := S5.c3; have f5 := S4.c5; have g5 := S5.c5; clear hb)
      | ((with_reducible refine wpList_store6 (k' := 0) (b' := false) (n' := 0) (t' := ⟨#[]⟩) (x' := ⟨#[]⟩) (p' := none) (len' := 0) (cap' := 0) (.tmp 8) (.tmp 54) (w.heap.size + 2) S8 ?_ ?_ ?_ ?_ ?_); rfl; rfl; rfl; rfl; intro w9 on9 S9))
    exact bodyPost_ret (results_six_tmp (p := 8) (q := 9) Tryz.results60 _ (.int .i64 4) rfl rfl S9) rfl ⟨none, 0, rfl, by unfold HeldT; exact ⟨none, 0, rfl⟩, below_only b0 on9 (by omega) b0.size⟩

set_option maxRecDepth 20000 in
set_option maxHeartbeats 12800000 in
theorem rkInts (lang op : Int) (k : Int) (b : Bool) (n : Int) (t x : ByteArray) (q : List Val) (p : Option Addr) (cap : Nat) (k2 : Int) (b2 : Bool) (n2 : Int) (t2 x2 : ByteArray) (q2 : List Val) (p2 : Option Addr) (cap2 : Nat) (w : World) (k9 n9 : Int) (t9 : ByteArray) (q9 : List Val) (e9 : Int) (jl jo o20 x4 x5 x2' n1' n2' : Bool) (el : (lang != 1) = jl) (eo : (op == 17) = jo) (e20 : (op != 20) = o20) (y4 : (k == 4 && k2 == 4) = x4) (y5 : (k == 5 && k2 == 5) = x5) (y2 : (k == 2 && k2 == 2) = x2') (m1 : (k == 2 || k == 3) = n1') (m2 : (k2 == 2 || k2 == 3) = n2') (c3' : x4 = false) (c4 : x5 = false) (c5 : x2' = true) (c6 : n1' = true) (c7 : n2' = true) (c8 : (o20 || jl) = true) (hc : ∀ W, Below w.heap.size w W → Calls Tryz.prog 101 #[.int .i64 op, .int .i64 n, .int .i64 n2] W (APost W k9 n9 t9 q9 e9)) :
    Calls Tryz.prog 60 #[.int .i64 lang, .int .i64 op, .agg #[.int .i64 k, .bool b, .int .i64 n, .string t, .string x, .slice p q.length cap], .agg #[.int .i64 k2, .bool b2, .int .i64 n2, .string t2, .string x2, .slice p2 q2.length cap2]] w (APost w k9 n9 t9 q9 e9) := by
  subst c3' c4 c5 c6 c7
  unfold APost at hc
  obtain ⟨W0, hW0⟩ : ∃ W0, W0 = ((w.alloc (.cells #[.int .i64 k, .bool b, .int .i64 n, .string t, .string x, .slice p q.length cap] 28)).alloc (.cells #[.int .i64 k2, .bool b2, .int .i64 n2, .string t2, .string x2, .slice p2 q2.length cap2] 28)).alloc (.cells #[.int .i64 0, .bool false, .int .i64 0, .string ⟨#[]⟩, .string ⟨#[]⟩, .slice none 0 0] 28) := ⟨_, rfl⟩
  have S4 : Six W0 w.heap.size k b n t x p q.length cap := by rw [hW0]; exact ((six_new _ rfl).alloc _).alloc _
  have S5 : Six W0 (w.heap.size + 1) k2 b2 n2 t2 x2 p2 q2.length cap2 := by rw [hW0]; exact (six_new _ (by simp)).alloc _
  have S8 : Six W0 (w.heap.size + 2) 0 false 0 ⟨#[]⟩ ⟨#[]⟩ none 0 0 := by rw [hW0]; exact six_new _ (by simp)
  have b0 : Below w.heap.size w W0 := by rw [hW0]; exact below3 _ _ _ _
  have h4 := fun W => bothAreAt 4 k b n t x (.slice p q.length cap) k2 b2 n2 t2 x2 (.slice p2 q2.length cap2) W
  have h5 := fun W => bothAreAt 5 k b n t x (.slice p q.length cap) k2 b2 n2 t2 x2 (.slice p2 q2.length cap2) W
  have h2 := fun W => bothAreAt 2 k b n t x (.slice p q.length cap) k2 b2 n2 t2 x2 (.slice p2 q2.length cap2) W
  have hn1 := fun W => isNumberAt k b n t x (.slice p q.length cap) W
  have hn2 := fun W => isNumberAt k2 b2 n2 t2 x2 (.slice p2 q2.length cap2) W
  rw [y4] at h4
  rw [y5] at h5
  rw [y2] at h2
  rw [m1] at hn1
  rw [m2] at hn2
  have f2 := S4.c2
  have g2 := S5.c2
  have f3 := S4.c3
  have g3 := S5.c3
  have f5 := S4.c5
  have g5 := S5.c5
  have H0 := Lib.hid hW0
  clear hW0 y4 y5 y2 m1 m2
  cases jl <;> cases jo <;> cases o20 <;> (first | (exfalso; revert c8; decide) | skip)
  all_goals
    clear c8
    go_enter Tryz.func60, Tryz.ntmps60
    go_wp2_with (first
      | ((try rw [← H0.out]); (with_reducible refine wpList_load6 (.tmp 6) w.heap.size S4 ?_ ?_ ?_ ?_); rfl; rfl; rfl)
      | ((try rw [← H0.out]); (with_reducible refine wpList_load6g (.tmp 6) w.heap.size S4 ?_ ?_ ?_ ?_); rfl; rfl; rfl)
      | ((try rw [← H0.out]); (with_reducible refine wpList_load6 (.tmp 7) (w.heap.size + 1) S5 ?_ ?_ ?_ ?_); rfl; rfl; rfl)
      | ((try rw [← H0.out]); (with_reducible refine wpList_load6g (.tmp 7) (w.heap.size + 1) S5 ?_ ?_ ?_ ?_); rfl; rfl; rfl)
      | (go_at_call 53; (try rw [← H0.out]); (with_reducible refine (h4 _).mono ?_); rintro e w' ⟨rfl, hb⟩; replace S4 := S4.below hb; replace S5 := S5.below hb; replace S8 := S8.below hb; replace b0 := below_any b0 hb b0.size; have f2 := S4.c2; have g2 := S5.c2; have f3 := S4.c3; have g3 := S5.c3; have f5 := S4.c5; have g5 := S5.c5; clear hb)
      | (go_at_call 53; (try rw [← H0.out]); (with_reducible refine (h5 _).mono ?_); rintro e w' ⟨rfl, hb⟩; replace S4 := S4.below hb; replace S5 := S5.below hb; replace S8 := S8.below hb; replace b0 := below_any b0 hb b0.size; have f2 := S4.c2; have g2 := S5.c2; have f3 := S4.c3; have g3 := S5.c3; have f5 := S4.c5; have g5 := S5.c5; clear hb)
      | (go_at_call 53; (try rw [← H0.out]); (with_reducible refine (h2 _).mono ?_); rintro e w' ⟨rfl, hb⟩; replace S4 := S4.below hb; replace S5 := S5.below hb; replace S8 := S8.below hb; replace b0 := below_any b0 hb b0.size; have f2 := S4.c2; have g2 := S5.c2; have f3 := S4.c3; have g3 := S5.c3; have f5 := S4.c5; have g5 := S5.c5; clear hb)
      | (go_at_call 50; (try rw [← H0.out]); (with_reducible refine (hn1 _).mono ?_); rintro e w' ⟨rfl, hb⟩; replace S4 := S4.below hb; replace S5 := S5.below hb; replace S8 := S8.below hb; replace b0 := below_any b0 hb b0.size; have f2 := S4.c2; have g2 := S5.c2; have f3 := S4.c3; have g3 := S5.c3; have f5 := S4.c5; have g5 := S5.c5; clear hb)
      | (go_at_call 50; (try rw [← H0.out]); (with_reducible refine (hn2 _).mono ?_); rintro e w' ⟨rfl, hb⟩; replace S4 := S4.below hb; replace S5 := S5.below hb; replace S8 := S8.below hb; replace b0 := below_any b0 hb b0.size; have f2 := S4.c2; have g2 := S5.c2; have f3 := S4.c3; have g3 := S5.c3; have f5 := S4.c5; have g5 := S5.c5; clear hb)
      | (go_at_call 101; (try rw [← H0.out]); (with_reducible refine (hc _ b0).mono ?_); rintro e w3 ⟨p3, c3, rfl, hq3, hb3⟩; have z3 := S8.lt; have T8 := S8.below hb3; have b3 := below_any b0 hb3 b0.size; have HQ := Lib.hid hq3; clear hq3)
      | ((with_reducible refine wpList_store6 (k' := k9) (b' := false) (n' := n9) (t' := t9) (x' := ⟨#[]⟩) (p' := p3) (len' := q9.length) (cap' := c3) (.tmp 8) (.tmp 73) (w.heap.size + 2) T8 ?_ ?_ ?_ ?_ ?_); rfl; rfl; rfl; rfl; intro w9 on9 S9))
    have s9 := on9.size
    refine bodyPost_ret (results_six_tmp (p := 8) (q := 9) Tryz.results60 _ (.int .i64 e9) rfl rfl S9) rfl ⟨p3, c3, rfl, ?_, below_only b3 on9 (by omega) b3.size⟩
    exact HeldT.wide (by omega) s9 q9 (HeldT.stays (fun i a c => on9.block i c (by omega)) q9 HQ.out)
end Go.Proofs.YtoifjjgakblhhaaGreatDoor

/- What two decimals make, by the program: the way of reckon that draws. -/
namespace Go.Proofs.YtoifjjgakblhhaaGreatDoor
open Go.RowKit

set_option maxRecDepth 20000 in
set_option maxHeartbeats 12800000 in
theorem rkDecimals (lang op : Int) (k : Int) (b : Bool) (n : Int) (t x : ByteArray) (q : List Val) (p : Option Addr) (cap : Nat) (k2 : Int) (b2 : Bool) (n2 : Int) (t2 x2 : ByteArray) (q2 : List Val) (p2 : Option Addr) (cap2 : Nat) (w : World) (k9 n9 : Int) (t9 : ByteArray) (q9 : List Val) (e9 : Int) (jl jo o20 x4 x5 x2' n1' n2' : Bool) (el : (lang != 1) = jl) (eo : (op == 17) = jo) (e20 : (op != 20) = o20) (y4 : (k == 4 && k2 == 4) = x4) (y5 : (k == 5 && k2 == 5) = x5) (y2 : (k == 2 && k2 == 2) = x2') (m1 : (k == 2 || k == 3) = n1') (m2 : (k2 == 2 || k2 == 3) = n2') (c3' : x4 = false) (c4 : x5 = false) (c6 : n1' = true) (c7 : n2' = true) (c8 : (x2' && (o20 || jl)) = false) (s s2 : ByteArray) (ha : ∀ W, Below w.heap.size w W → Calls Tryz.prog 92 #[.agg #[.int .i64 k, .bool b, .int .i64 n, .string t, .string x, .slice p q.length cap]] W fun e w' => e = .returned (.string s) ∧ Below W.heap.size W w') (hb : ∀ W, Below w.heap.size w W → Calls Tryz.prog 92 #[.agg #[.int .i64 k2, .bool b2, .int .i64 n2, .string t2, .string x2, .slice p2 q2.length cap2]] W fun e w' => e = .returned (.string s2) ∧ Below W.heap.size W w') (hc : ∀ W, Below w.heap.size w W → Calls Tryz.prog 102 #[.int .i64 op, .string s, .string s2] W (APost W k9 n9 t9 q9 e9)) :
    Calls Tryz.prog 60 #[.int .i64 lang, .int .i64 op, .agg #[.int .i64 k, .bool b, .int .i64 n, .string t, .string x, .slice p q.length cap], .agg #[.int .i64 k2, .bool b2, .int .i64 n2, .string t2, .string x2, .slice p2 q2.length cap2]] w (APost w k9 n9 t9 q9 e9) := by
  subst c3' c4 c6 c7
  unfold APost at hc
  obtain ⟨W0, hW0⟩ : ∃ W0, W0 = ((w.alloc (.cells #[.int .i64 k, .bool b, .int .i64 n, .string t, .string x, .slice p q.length cap] 28)).alloc (.cells #[.int .i64 k2, .bool b2, .int .i64 n2, .string t2, .string x2, .slice p2 q2.length cap2] 28)).alloc (.cells #[.int .i64 0, .bool false, .int .i64 0, .string ⟨#[]⟩, .string ⟨#[]⟩, .slice none 0 0] 28) := ⟨_, rfl⟩
  have S4 : Six W0 w.heap.size k b n t x p q.length cap := by rw [hW0]; exact ((six_new _ rfl).alloc _).alloc _
  have S5 : Six W0 (w.heap.size + 1) k2 b2 n2 t2 x2 p2 q2.length cap2 := by rw [hW0]; exact (six_new _ (by simp)).alloc _
  have S8 : Six W0 (w.heap.size + 2) 0 false 0 ⟨#[]⟩ ⟨#[]⟩ none 0 0 := by rw [hW0]; exact six_new _ (by simp)
  have b0 : Below w.heap.size w W0 := by rw [hW0]; exact below3 _ _ _ _
  have h4 := fun W => bothAreAt 4 k b n t x (.slice p q.length cap) k2 b2 n2 t2 x2 (.slice p2 q2.length cap2) W
  have h5 := fun W => bothAreAt 5 k b n t x (.slice p q.length cap) k2 b2 n2 t2 x2 (.slice p2 q2.length cap2) W
  have h2 := fun W => bothAreAt 2 k b n t x (.slice p q.length cap) k2 b2 n2 t2 x2 (.slice p2 q2.length cap2) W
  have hn1 := fun W => isNumberAt k b n t x (.slice p q.length cap) W
  have hn2 := fun W => isNumberAt k2 b2 n2 t2 x2 (.slice p2 q2.length cap2) W
  rw [y4] at h4
  rw [y5] at h5
  rw [y2] at h2
  rw [m1] at hn1
  rw [m2] at hn2
  have f2 := S4.c2
  have g2 := S5.c2
  have f3 := S4.c3
  have g3 := S5.c3
  have f5 := S4.c5
  have g5 := S5.c5
  have H0 := Lib.hid hW0
  clear hW0 y4 y5 y2 m1 m2
  have hA := Lib.hid ha
  have hB := Lib.hid hb
  have hC := Lib.hid hc
  clear ha hb hc
  have hcs : (jl = false ∧ x2' = false) ∨ (jl = false ∧ x2' = true ∧ o20 = false) ∨ (jl = true ∧ jo = false ∧ x2' = false) ∨ (jl = true ∧ jo = true ∧ x2' = false) := by
    cases jl <;> cases jo <;> cases o20 <;> cases x2' <;> (first | (exfalso; revert c8; decide) | simp)
  rcases hcs with ⟨rfl, rfl⟩ | ⟨rfl, rfl, rfl⟩ | ⟨rfl, rfl, rfl⟩ | ⟨rfl, rfl, rfl⟩
  all_goals
    clear c8
    go_enter Tryz.func60, Tryz.ntmps60
    go_wp2_with (first
      | ((try rw [← H0.out]); (with_reducible refine wpList_load6 (.tmp 6) w.heap.size S4 ?_ ?_ ?_ ?_); rfl; rfl; rfl)
      | ((try rw [← H0.out]); (with_reducible refine wpList_load6g (.tmp 6) w.heap.size S4 ?_ ?_ ?_ ?_); rfl; rfl; rfl)
      | ((try rw [← H0.out]); (with_reducible refine wpList_load6 (.tmp 7) (w.heap.size + 1) S5 ?_ ?_ ?_ ?_); rfl; rfl; rfl)
      | ((try rw [← H0.out]); (with_reducible refine wpList_load6g (.tmp 7) (w.heap.size + 1) S5 ?_ ?_ ?_ ?_); rfl; rfl; rfl)
      | (go_at_call 53; (try rw [← H0.out]); (with_reducible refine (h4 _).mono ?_); rintro e w' ⟨rfl, hb⟩; replace S4 := S4.below hb; replace S5 := S5.below hb; replace S8 := S8.below hb; replace b0 := below_any b0 hb b0.size; have f2 := S4.c2; have g2 := S5.c2; have f3 := S4.c3; have g3 := S5.c3; have f5 := S4.c5; have g5 := S5.c5; clear hb)
      | (go_at_call 53; (try rw [← H0.out]); (with_reducible refine (h5 _).mono ?_); rintro e w' ⟨rfl, hb⟩; replace S4 := S4.below hb; replace S5 := S5.below hb; replace S8 := S8.below hb; replace b0 := below_any b0 hb b0.size; have f2 := S4.c2; have g2 := S5.c2; have f3 := S4.c3; have g3 := S5.c3; have f5 := S4.c5; have g5 := S5.c5; clear hb)
      | (go_at_call 53; (try rw [← H0.out]); (with_reducible refine (h2 _).mono ?_); rintro e w' ⟨rfl, hb⟩; replace S4 := S4.below hb; replace S5 := S5.below hb; replace S8 := S8.below hb; replace b0 := below_any b0 hb b0.size; have f2 := S4.c2; have g2 := S5.c2; have f3 := S4.c3; have g3 := S5.c3; have f5 := S4.c5; have g5 := S5.c5; clear hb)
      | (go_at_call 50; (try rw [← H0.out]); (with_reducible refine (hn1 _).mono ?_); rintro e w' ⟨rfl, hb⟩; replace S4 := S4.below hb; replace S5 := S5.below hb; replace S8 := S8.below hb; replace b0 := below_any b0 hb b0.size; have f2 := S4.c2; have g2 := S5.c2; have f3 := S4.c3; have g3 := S5.c3; have f5 := S4.c5; have g5 := S5.c5; clear hb)
      | (go_at_call 50; (try rw [← H0.out]); (with_reducible refine (hn2 _).mono ?_); rintro e w' ⟨rfl, hb⟩; replace S4 := S4.below hb; replace S5 := S5.below hb; replace S8 := S8.below hb; replace b0 := below_any b0 hb b0.size; have f2 := S4.c2; have g2 := S5.c2; have f3 := S4.c3; have g3 := S5.c3; have f5 := S4.c5; have g5 := S5.c5; clear hb))
    refine wp_region_held_drew (S := fun w' => Six w' w.heap.size k b n t x p q.length cap ∧ Six w' (w.heap.size + 1) k2 b2 n2 t2 x2 p2 q2.length cap2 ∧ ∃ k8 b8 n8 t8 x8 p8 l8 m8, Six w' (w.heap.size + 2) k8 b8 n8 t8 x8 p8 l8 m8) (by kernel_rfl) ⟨S4, S5, _, _, _, _, _, _, _, _, S8⟩ (fun hHeld => ?_)
    replace b0 := b0.drew
    clear S4 S5 S8
    obtain ⟨S4, S5, k8, b8, n8, t8, x8, p8, l8, m8, S8⟩ := hHeld
    refine wpAnyH_take (i := 0) (v := .int .i64 op) rfl (by kernel_rfl) (by kernel_rfl) (by kernel_rfl) (fun _ _ _ h => h) (Or.inl ⟨by rfl, fun W _ => by go_simp⟩) ⟨S4, S5, _, _, _, _, _, _, _, _, S8⟩ ?_
    try simp only [Act.put, List.getElem_toArray, List.getElem_cons_succ, List.getElem_cons_zero, List.setIfInBounds_toArray, List.set_cons_zero, List.set_cons_succ]
    refine wpAnyH_take (i := 1) rfl (by kernel_rfl) (by kernel_rfl) (by kernel_rfl) (fun _ _ _ h => h) (yields6 (by rfl) (.tmp 6) rfl w.heap.size rfl (fun _ h => h.1)) ⟨S4, S5, _, _, _, _, _, _, _, _, S8⟩ ?_
    try simp only [Act.put, List.getElem_toArray, List.getElem_cons_succ, List.getElem_cons_zero, List.setIfInBounds_toArray, List.set_cons_zero, List.set_cons_succ]
    refine wpAnyH_take (i := 3) rfl (by kernel_rfl) (by kernel_rfl) (by kernel_rfl) (fun _ _ _ h => h) (yields6 (by rfl) (.tmp 7) rfl (w.heap.size + 1) rfl (fun _ h => h.2.1)) ⟨S4, S5, _, _, _, _, _, _, _, _, S8⟩ ?_
    try simp only [Act.put, List.getElem_toArray, List.getElem_cons_succ, List.getElem_cons_zero, List.setIfInBounds_toArray, List.set_cons_zero, List.set_cons_succ]
    refine wpAnyH_ready (rs := [2]) (by kernel_rfl) (by simp) ?_
    refine AllReadyH.cons rfl (fun K hK => ?_) AllReadyH.nil
    rw [if_pos (by rfl)]
    go_simp
    refine (hA.out _ b0).mono ?_
    rintro e w3 ⟨rfl, hb⟩
    replace S4 := S4.below hb
    replace S5 := S5.below hb
    replace S8 := S8.below hb
    replace b0 := below_any b0 hb b0.size
    clear hb
    refine hK.out _ _ ⟨S4, S5, _, _, _, _, _, _, _, _, S8⟩ (fun _ => ?_)
    clear hK K
    try simp only [Act.put, List.getElem_toArray, List.getElem_cons_succ, List.getElem_cons_zero, List.setIfInBounds_toArray, List.set_cons_zero, List.set_cons_succ]
    refine wpAnyH_ready (rs := [4]) (by kernel_rfl) (by simp) ?_
    refine AllReadyH.cons rfl (fun K hK => ?_) AllReadyH.nil
    rw [if_pos (by rfl)]
    go_simp
    refine (hB.out _ b0).mono ?_
    rintro e w3 ⟨rfl, hb⟩
    replace S4 := S4.below hb
    replace S5 := S5.below hb
    replace S8 := S8.below hb
    replace b0 := below_any b0 hb b0.size
    clear hb
    refine hK.out _ _ ⟨S4, S5, _, _, _, _, _, _, _, _, S8⟩ (fun _ => ?_)
    clear hK K
    try simp only [Act.put, List.getElem_toArray, List.getElem_cons_succ, List.getElem_cons_zero, List.setIfInBounds_toArray, List.set_cons_zero, List.set_cons_succ]
    refine wpAnyH_ready (rs := [5]) (by kernel_rfl) (by simp) ?_
    refine AllReadyH.cons rfl (fun K hK => ?_) AllReadyH.nil
    rw [if_pos (by rfl)]
    go_simp
    refine (hC.out _ b0).mono ?_
    rintro e w3 ⟨p3, c3, rfl, hq3, hb⟩
    have z3 := S8.lt
    replace S8 := S8.below hb
    have b3 := below_any b0 hb b0.size
    have HQ := Lib.hid hq3
    clear hq3
    replace S4 := S4.below hb
    replace S5 := S5.below hb
    refine hK.out _ _ ⟨S4, S5, _, _, _, _, _, _, _, _, S8⟩ (fun _ => ?_)
    clear hK K
    try simp only [Act.put, List.getElem_toArray, List.getElem_cons_succ, List.getElem_cons_zero, List.setIfInBounds_toArray, List.set_cons_zero, List.set_cons_succ]
    refine wpAnyH_take (i := 6) (v := .agg #[.int .i64 k9, .bool false, .int .i64 n9, .string t9, .string ⟨#[]⟩, .slice p3 q9.length c3]) rfl (by kernel_rfl) (by kernel_rfl) (by kernel_rfl) (fun _ _ _ h => h) (Or.inl ⟨by rfl, fun W _ => by go_simp⟩) ⟨S4, S5, _, _, _, _, _, _, _, _, S8⟩ ?_
    try simp only [Act.put, List.getElem_toArray, List.getElem_cons_succ, List.getElem_cons_zero, List.setIfInBounds_toArray, List.set_cons_zero, List.set_cons_succ]
    refine wpAnyH_take (i := 7) (v := .int .i64 e9) rfl (by kernel_rfl) (by kernel_rfl) (by kernel_rfl) (fun _ _ _ h => h) (Or.inl ⟨by rfl, fun W _ => by go_simp⟩) ⟨S4, S5, _, _, _, _, _, _, _, _, S8⟩ ?_
    try simp only [Act.put, List.getElem_toArray, List.getElem_cons_succ, List.getElem_cons_zero, List.setIfInBounds_toArray, List.set_cons_zero, List.set_cons_succ]
    refine wpAnyH_ready (rs := [8]) (by kernel_rfl) (by simp) ?_
    refine AllReadyH.cons rfl (fun K hK => ?_) AllReadyH.nil
    try rw [if_pos (by rfl)]
    refine wp_store6 (k' := k9) (b' := false) (n' := n9) (t' := t9) (x' := ⟨#[]⟩) (p' := p3) (len' := q9.length) (cap' := c3) (.tmp 8) (.tmp 81) rfl (w.heap.size + 2) S8 rfl rfl ?_
    intro w9 on9 S9
    replace S4 := S4.only on9 (by omega)
    replace S5 := S5.only on9 (by omega)
    replace S8 := S9
    refine hK.out _ _ ⟨S4, S5, _, _, _, _, _, _, _, _, S8⟩ (fun _ => ?_)
    clear hK K
    try simp only [Act.put, List.getElem_toArray, List.getElem_cons_succ, List.getElem_cons_zero, List.setIfInBounds_toArray, List.set_cons_zero, List.set_cons_succ]
    refine wpAnyH_ready (rs := [9]) (by kernel_rfl) (by simp) ?_
    refine AllReadyH.cons rfl (fun K hK => ?_) AllReadyH.nil
    try rw [if_pos (by rfl)]
    go_simp
    refine hK.out _ _ ⟨S4, S5, _, _, _, _, _, _, _, _, S8⟩ (fun _ => ?_)
    clear hK K
    try simp only [Act.put, List.getElem_toArray, List.getElem_cons_succ, List.getElem_cons_zero, List.setIfInBounds_toArray, List.set_cons_zero, List.set_cons_succ]
    refine wpAnyH_done (by kernel_rfl) ?_ _
    go_wp2_with fail
    have s9 := on9.size
    refine bodyPost_ret (results_six_tmp (p := 8) (q := 9) Tryz.results60 _ (.int .i64 e9) rfl rfl S9) rfl ⟨p3, c3, rfl, ?_, below_only b3 on9 (by omega) b3.size⟩
    exact HeldT.wide (by omega) s9 q9 (HeldT.stays (fun i a c => on9.block i c (by omega)) q9 HQ.out)
end Go.Proofs.YtoifjjgakblhhaaGreatDoor
