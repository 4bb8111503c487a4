/- A column of numbers: a new one; how many cells, how many nulls; a cell. -/
import Derived.Test.YtffbcccbhofbpaaDoorC3
namespace Go.Proofs.YtffbcccbhofbpaaDoor
open Go.RowKit

theorem cellsNum_map (xs : List (Option Int)) : cellsNum xs = xs.map fun x => (.int .i64 (x.getD 0)) := by
  induction xs with
  | nil => rfl
  | cons x r ih =>
    have e : cellsNum (x :: r) = cellsNum [x] ++ cellsNum r := by simp [cellsNum]
    rw [e, ih]
    cases x <;> rfl
set_option maxRecDepth 20000 in
set_option maxHeartbeats 3200000 in
theorem newColNum (w : World) : Calls Tryd.prog 23 #[] w fun e w' => ∃ g F, e = .returned (.pointer (some ⟨g, 0, none⟩)) ∧ Below w.heap.size w w' ∧ ColNum w' g [] F ∧ ∀ i, F i → w.heap.size ≤ i := by
  go_enter Tryd.func23, Tryd.ntmps23
  go_wp2_with fail
  go_ret
  refine ⟨_, fun i => i = w.heap.size, rfl, below1 _ _, ⟨.slice none 0 0, .slice none 0 0, heap_new _ _ rfl, World.ownsRow_nil _ _ _ _, World.ownsRow_nil _ _ _ _, fun i => by simp [Value.ownBlock]⟩, by rintro i rfl; exact Nat.le_refl _⟩
set_option maxRecDepth 20000 in
set_option maxHeartbeats 3200000 in
theorem lenNum (w : World) (g : Nat) (xs : List (Option Int)) (F : Nat → Prop) (h : ColNum w g xs F) :
    Calls Tryd.prog 26 #[.pointer (some ⟨g, 0, none⟩)] w fun e w' => e = .returned (.int .i64 xs.length) ∧ w = w' := by
  obtain ⟨v, u, h1, h2, h3, h4⟩ := h
  obtain ⟨p, cap, rfl⟩ := row_slice h2
  have c0 : w.cell? ⟨g, 0, none⟩ = some (.slice p xs.length cap) := cell_of h1 0 rfl
  clear h4
  go_enter Tryd.func26, Tryd.ntmps26
  go_wp2_with fail
  go_ret
  exact ⟨rfl, rfl⟩
set_option maxRecDepth 20000 in
set_option maxHeartbeats 3200000 in
theorem nullsNum (w : World) (g : Nat) (xs : List (Option Int)) (F : Nat → Prop) (h : ColNum w g xs F) (hn : xs.length ≤ 1152921504606846976) :
    Calls Tryd.prog 27 #[.pointer (some ⟨g, 0, none⟩)] w fun e w' => e = .returned (.int .i64 ((xs.map Option.isNone).filter id).length) ∧ w = w' := by
  obtain ⟨v, u, h1, h2, h3, h4⟩ := h
  have hc := countM w g 109 v u _ h1 h3 (by simpa using hn)
  clear h4
  go_enter Tryd.func27, Tryd.ntmps27
  go_wp2_with (go_at_call 61; (with_reducible refine hc.mono ?_); rintro e w1 ⟨rfl, rfl⟩)
  go_ret
  exact ⟨rfl, rfl⟩
set_option maxRecDepth 20000 in
set_option maxHeartbeats 3200000 in
theorem hasYesNum (w : World) (g : Nat) (xs : List (Option Int)) (F : Nat → Prop) (h : ColNum w g xs F) (i : Nat) (hi : i < xs.length) :
    Calls Tryd.prog 62 #[.pointer (some ⟨g, 0, none⟩), .int .i64 i] w fun e w' => e = .returned (.bool true) ∧ w = w' := by
  obtain ⟨v, u, h1, h2, h3, h4⟩ := h
  obtain ⟨p, cap, rfl⟩ := row_slice h2
  have c0 : w.cell? ⟨g, 0, none⟩ = some (.slice p xs.length cap) := cell_of h1 0 rfl
  have d1 : decide (i < xs.length) = true := by simpa using hi
  have d2 : decide ((0 : Int) ≤ (i : Int)) = true := by simp
  clear h4 h2 h3
  go_enter Tryd.func62, Tryd.ntmps62
  go_wp2_with fail
  go_ret
  exact ⟨rfl, rfl⟩
set_option maxRecDepth 20000 in
set_option maxHeartbeats 3200000 in
theorem hasNoNum (w : World) (g : Nat) (xs : List (Option Int)) (F : Nat → Prop) (h : ColNum w g xs F) (i : Int) (hi : i < 0 ∨ (xs.length : Int) ≤ i) :
    Calls Tryd.prog 62 #[.pointer (some ⟨g, 0, none⟩), .int .i64 i] w fun e w' => e = .returned (.bool false) ∧ w = w' := by
  obtain ⟨v, u, h1, h2, h3, h4⟩ := h
  obtain ⟨p, cap, rfl⟩ := row_slice h2
  have c0 : w.cell? ⟨g, 0, none⟩ = some (.slice p xs.length cap) := cell_of h1 0 rfl
  clear h4 h2 h3
  by_cases h0 : i < 0
  · have d2 : decide (0 ≤ i) = false := by simp; omega
    clear hi
    go_enter Tryd.func62, Tryd.ntmps62
    go_wp2_with fail
    go_ret
    exact ⟨rfl, rfl⟩
  · have d1 : decide (i < (xs.length : Int)) = false := by simp; omega
    have d2 : decide (0 ≤ i) = true := by simp; omega
    clear hi
    go_enter Tryd.func62, Tryd.ntmps62
    go_wp2_with fail
    go_ret
    exact ⟨rfl, rfl⟩
set_option maxRecDepth 20000 in
set_option maxHeartbeats 3200000 in
theorem atNoNum (w : World) (g : Nat) (xs : List (Option Int)) (F : Nat → Prop) (h : ColNum w g xs F) (i : Int) (hi : i < 0 ∨ (xs.length : Int) ≤ i) :
    Calls Tryd.prog 30 #[.pointer (some ⟨g, 0, none⟩), .int .i64 i] w fun e w' => e = .returned (.tuple #[.int .i64 0, .bool false, .int .i64 1]) ∧ w = w' := by
  have hc := hasNoNum w g xs F h i hi
  clear hi
  go_enter Tryd.func30, Tryd.ntmps30
  go_wp2_with (go_at_call 62; (with_reducible refine hc.mono ?_); rintro e w1 ⟨rfl, rfl⟩)
  go_ret3
  exact ⟨rfl, rfl⟩
set_option maxRecDepth 20000 in
set_option maxHeartbeats 3200000 in
theorem atYesNum (w : World) (g : Nat) (xs : List (Option Int)) (F : Nat → Prop) (h : ColNum w g xs F) (hn : xs.length ≤ 17592186044416) (i : Nat) (x : Option Int) (hx : xs[i]? = some x) :
    Calls Tryd.prog 30 #[.pointer (some ⟨g, 0, none⟩), .int .i64 i] w fun e w' => e = .returned (.tuple #[.int .i64 (x.getD 0), .bool x.isSome, .int .i64 0]) ∧ Below w.heap.size w w' := by
  have hi : i < xs.length := (List.getElem?_eq_some_iff.1 hx).1
  have hc := hasYesNum w g xs F h i hi
  obtain ⟨v, u, h1, h2, h3, h4⟩ := h
  obtain ⟨r, cap, rfl, hcap, hcell⟩ := row_cell h2 i hi
  have hb : (xs.map Option.isNone)[i]? = some x.isNone := by rw [List.getElem?_map, hx]; rfl
  have hM : ∀ W, Below w.heap.size w W → Calls Tryd.prog 63 #[.pointer (some ⟨g, 1, none⟩), .int .i64 i] W fun e w' => e = .returned (.bool x.isNone) ∧ W = w' := fun W hW =>
    atM W g 109 (.slice (some ⟨r, 0, none⟩) xs.length cap) u _ ((hW.block g (lt_of_heap h1)).trans h1) (row_keep h3 fun j hj => hW.block j (row_lt h3 hj)) (by simp; omega) i _ hb
  have hce : w.cell? ⟨r, i, none⟩ = some (.int .i64 (x.getD 0)) := by rw [hcell, cellsNum_map, List.getElem?_map, hx]; rfl
  have c0 : w.cell? ⟨g, 0, none⟩ = some (.slice (some ⟨r, 0, none⟩) xs.length cap) := cell_of h1 0 rfl
  have okd : Below w.heap.size w w.drew := ⟨rfl, rfl, rfl, Nat.le_refl _, fun _ _ => rfl⟩
  have hgl : g < w.heap.size := lt_of_heap h1
  have hrl : r < w.heap.size := row_lt h2 rfl
  clear h1 h2 h3 h4 hb hcell hx
  generalize xs.length = N at *
  go_enter Tryd.func30, Tryd.ntmps30
  go_wp2_with (go_at_call 62; (with_reducible refine hc.mono ?_); rintro e w1 ⟨rfl, rfl⟩)
  go_region_with (first
    | (go_at_call 60; refine (ownNum (x.getD 0) _).mono ?_; rintro e w5 ⟨rfl, hb5⟩
       replace hb5 : Below w.heap.size w w5 := ⟨hb5.os, hb5.tape, hb5.output, hb5.size, hb5.block⟩
       have c5 : w5.cell? ⟨g, 0, none⟩ = some (.slice (some ⟨r, 0, none⟩) N cap) := (hb5.cell (p := ⟨g, 0, none⟩) hgl).trans c0
       have c6 : w5.cell? ⟨r, i, none⟩ = some (.int .i64 (x.getD 0)) := (hb5.cell (p := ⟨r, i, none⟩) hrl).trans hce)
    | (go_at_call 63; refine (hM _ ?_).mono ?_; (first | exact okd | exact hb5); rintro e w6 ⟨rfl, rfl⟩))
  all_goals
    go_wp2_with fail
    go_ret3
    exact ⟨rfl, hb5⟩
end Go.Proofs.YtffbcccbhofbpaaDoor
