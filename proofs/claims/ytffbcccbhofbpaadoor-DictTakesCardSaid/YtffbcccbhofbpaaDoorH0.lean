/- The law of columns: one cell asked for. -/
import Derived.Test.YtffbcccbhofbpaaDoorC8
import Derived.BigGuardPart
namespace Go.Proofs.YtffbcccbhofbpaaDoor
open Go.RowKit

/-- A list of cells in memory, a nil one too. -/
def CellL (w : World) (p : Option Addr) (n : Nat) (C : Nat → Int × Bool) : Prop := ∀ k, k < n → ∃ b off, p = some ⟨b, off, none⟩ ∧ w.cell? ⟨b, off + k * 2, none⟩ = some (.int .i64 (C k).1) ∧ w.cell? ⟨b, off + k * 2 + 1, none⟩ = some (.bool (C k).2)
theorem CellL.below {w w' : World} {p : Option Addr} {n : Nat} {C : Nat → Int × Bool} (h : CellL w p n C) (q : Below w.heap.size w w') : CellL w' p n C := fun k hk => by
  obtain ⟨b, off, e, hc, hd⟩ := h k hk
  exact ⟨b, off, e, (q.cell (p := ⟨b, off + k * 2, none⟩) (lt_cellC hc)).trans hc, (q.cell (p := ⟨b, off + k * 2 + 1, none⟩) (lt_cellC hd)).trans hd⟩
theorem CellL.at {w : World} {p : Option Addr} {n cap : Nat} {C : Nat → Int × Bool} (h : CellL w p n C) (hn : n ≤ maxLen) (k : Nat) (hk : k < n) : ∃ b o, (∀ W, (Instr.indexAt 48 (.slice p n cap) (.int .i64 (k : Int))).run Tryd.prog W = .ok (.pointer (some ⟨b, o, none⟩)) W) ∧ w.cell? ⟨b, o, none⟩ = some (.int .i64 (C k).1) ∧ w.cell? ⟨b, o + 1, none⟩ = some (.bool (C k).2) := by
  obtain ⟨b, off, rfl, hc, hd⟩ := h k hk
  unfold maxLen at hn
  refine ⟨b, off + k * 2, fun W => ?_, hc, hd⟩
  go_simp
/-- The column that comes of the first k cells. -/
def col (C : Nat → Int × Bool) (k : Nat) : List (Option Int) := (List.range k).map fun i => if (C i).2 then none else some (C i).1
theorem col_succ (C : Nat → Int × Bool) (k : Nat) : col C (k + 1) = col C k ++ [if (C k).2 then none else some (C k).1] := by simp [col, List.range_succ]
theorem col_length (C : Nat → Int × Bool) (k : Nat) : (col C k).length = k := by simp [col]
theorem col_get (C : Nat → Int × Bool) (n k : Nat) (h : k < n) : (col C n)[k]? = some (if (C k).2 then none else some (C k).1) := by simp [col, h]
set_option maxRecDepth 20000 in
set_option maxHeartbeats 6400000 in
theorem cellNo (w : World) (g : Nat) (xs : List (Option Int)) (F : Nat → Prop) (h : ColNum w g xs F) (x y z : Value) (i : Int) (hi : i < 0 ∨ (xs.length : Int) ≤ i) (M : Nat) (hM : xs.length = M) :
    Calls Tryd.prog 28 #[.pointer (some ⟨g, 0, none⟩), .agg #[x, y, z], .int .i64 i, .int .i64 M] w fun e w' => e = .returned (.bool true) ∧ Below w.heap.size w w' := by
  have b0 := below1 w (.cells #[x, y, z] 50)
  have ha := atNoNum _ g xs F (h.below b0) i hi
  rw [hM] at hi
  have HI := Lib.hid hi
  clear hi hM
  by_cases h0 : i < 0
  · clear HI
    go_enter Tryd.func28, Tryd.ntmps28
    go_wp2_with (go_at_call 30; (with_reducible refine ha.mono ?_); rintro e w1 ⟨rfl, rfl⟩)
    go_ret
    exact ⟨rfl, b0⟩
  · have d1 : decide (i < 0) = false := by simpa using h0
    have d2 : decide ((M : Int) ≤ i) = true := by have := HI.out; simp; omega
    clear HI
    go_enter Tryd.func28, Tryd.ntmps28
    go_wp2_with (go_at_call 30; (with_reducible refine ha.mono ?_); rintro e w1 ⟨rfl, rfl⟩)
    go_ret
    exact ⟨rfl, b0⟩
set_option maxRecDepth 20000 in
set_option maxHeartbeats 6400000 in
theorem cellYes (w : World) (g : Nat) (C : Nat → Int × Bool) (M : Nat) (F : Nat → Prop) (h : ColNum w g (col C M) F) (hM : M ≤ 17592186044416) (p : Option Addr) (n cap : Nat) (hL : CellL w p n C) (hn : n ≤ maxLen) (y z : Value) (i : Nat) (hi : i < M) (hMn : M ≤ n) :
    Calls Tryd.prog 28 #[.pointer (some ⟨g, 0, none⟩), .agg #[.slice p n cap, y, z], .int .i64 i, .int .i64 M] w fun e w' => e = .returned (.bool true) ∧ Below w.heap.size w w' := by
  obtain ⟨W0, hW0⟩ : ∃ W0, W0 = w.alloc (.cells #[.slice p n cap, y, z] 50) := ⟨_, rfl⟩
  have b0 : Below w.heap.size w W0 := by rw [hW0]; exact below1 _ _
  have hx : W0.heap[w.heap.size]? = some (.cells #[.slice p n cap, y, z] 50) := by rw [hW0]; exact heap_new _ _ rfl
  have ha := atYesNum _ g _ F (h.below b0) (by rw [col_length]; exact hM) i _ (col_get C M i hi)
  obtain ⟨b, o, hix, hc, hd⟩ := (hL.below b0).at (cap := cap) hn i (by omega)
  have hbl := lt_cellC hc
  have hwl := lt_of_heap hx
  have d1 : decide ((i : Int) < 0) = false := by simp
  have d2 : decide (M ≤ i) = false := by simp; omega
  have H0 := Lib.hid hW0
  clear hW0 h hL
  generalize C i = q at *
  obtain ⟨cn, cb⟩ := q
  simp only at hc hd
  cases cb
  all_goals
    simp only [Bool.false_eq_true, if_false, if_true, Option.getD, Option.isSome] at ha
    go_enter Tryd.func28, Tryd.ntmps28
    go_wp2_with (first
      | (go_at_call 30; rw [← H0.out]; (with_reducible refine ha.mono ?_); rintro e w1 ⟨rfl, hb1⟩
         have x0 : w1.cell? ⟨w.heap.size, 0, none⟩ = some (.slice p n cap) := cell_of ((hb1.block _ hwl).trans hx) 0 rfl
         have hc1 := (hb1.cell (p := ⟨b, o, none⟩) hbl).trans hc
         have hd1 := (hb1.cell (p := ⟨b, o + 1, none⟩) hbl).trans hd))
    go_ret
    exact ⟨rfl, below_any b0 hb1 b0.size⟩
end Go.Proofs.YtffbcccbhofbpaaDoor
