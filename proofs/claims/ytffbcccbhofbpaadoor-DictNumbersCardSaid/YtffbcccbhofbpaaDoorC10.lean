/- A column of pairs: a new one; how many cells, how many nulls; a cell. -/
import Derived.Test.YtffbcccbhofbpaaDoorC6
namespace Go.Proofs.YtffbcccbhofbpaaDoor
open Go.RowKit

set_option maxRecDepth 20000 in
set_option maxHeartbeats 3200000 in
theorem newColPair (w : World) : Calls Tryd.prog 32 #[] w fun e w' => ∃ g F, e = .returned (.pointer (some ⟨g, 0, none⟩)) ∧ Below w.heap.size w w' ∧ ColPair w' g [] F ∧ ∀ i, F i → w.heap.size ≤ i := by
  go_enter Tryd.func32, Tryd.ntmps32
  go_wp2_with fail
  go_ret
  refine ⟨_, fun i => i = w.heap.size, rfl, below1 _ _, ⟨.slice none 0 0, .slice none 0 0, heap_new _ _ rfl, World.ownsRow_nil _ _ _ _, World.ownsRow_nil _ _ _ _, fun i => by simp [Value.ownBlock]⟩, by rintro i rfl; exact Nat.le_refl _⟩
set_option maxRecDepth 20000 in
set_option maxHeartbeats 3200000 in
theorem lenPair (w : World) (g : Nat) (xs : List (Option (Int × ByteArray))) (F : Nat → Prop) (h : ColPair w g xs F) :
    Calls Tryd.prog 38 #[.pointer (some ⟨g, 0, none⟩)] w fun e w' => e = .returned (.int .i64 xs.length) ∧ w = w' := by
  obtain ⟨v, u, h1, h2, h3, h4⟩ := h
  obtain ⟨p, cap, rfl⟩ := row_slice h2
  have c0 : w.cell? ⟨g, 0, none⟩ = some (.slice p xs.length cap) := cell_of h1 0 rfl
  clear h4
  go_enter Tryd.func38, Tryd.ntmps38
  go_wp2_with fail
  go_ret
  exact ⟨rfl, rfl⟩
set_option maxRecDepth 20000 in
set_option maxHeartbeats 3200000 in
theorem nullsPair (w : World) (g : Nat) (xs : List (Option (Int × ByteArray))) (F : Nat → Prop) (h : ColPair w g xs F) (hn : xs.length ≤ 1152921504606846976) :
    Calls Tryd.prog 39 #[.pointer (some ⟨g, 0, none⟩)] w fun e w' => e = .returned (.int .i64 ((xs.map Option.isNone).filter id).length) ∧ w = w' := by
  obtain ⟨v, u, h1, h2, h3, h4⟩ := h
  have hc := countM w g 117 v u _ h1 h3 (by simpa using hn)
  clear h4
  go_enter Tryd.func39, Tryd.ntmps39
  go_wp2_with (go_at_call 61; (with_reducible refine hc.mono ?_); rintro e w1 ⟨rfl, rfl⟩)
  go_ret
  exact ⟨rfl, rfl⟩
set_option maxRecDepth 20000 in
set_option maxHeartbeats 3200000 in
theorem hasYesPair (w : World) (g : Nat) (xs : List (Option (Int × ByteArray))) (F : Nat → Prop) (h : ColPair w g xs F) (i : Nat) (hi : i < xs.length) :
    Calls Tryd.prog 66 #[.pointer (some ⟨g, 0, none⟩), .int .i64 i] w fun e w' => e = .returned (.bool true) ∧ w = w' := by
  obtain ⟨v, u, h1, h2, h3, h4⟩ := h
  obtain ⟨p, cap, rfl⟩ := row_slice h2
  have c0 : w.cell? ⟨g, 0, none⟩ = some (.slice p xs.length cap) := cell_of h1 0 rfl
  have d1 : decide (i < xs.length) = true := by simpa using hi
  have d2 : decide ((0 : Int) ≤ (i : Int)) = true := by simp
  clear h4 h2 h3
  go_enter Tryd.func66, Tryd.ntmps66
  go_wp2_with fail
  go_ret
  exact ⟨rfl, rfl⟩
set_option maxRecDepth 20000 in
set_option maxHeartbeats 3200000 in
theorem hasNoPair (w : World) (g : Nat) (xs : List (Option (Int × ByteArray))) (F : Nat → Prop) (h : ColPair w g xs F) (i : Int) (hi : i < 0 ∨ (xs.length : Int) ≤ i) :
    Calls Tryd.prog 66 #[.pointer (some ⟨g, 0, none⟩), .int .i64 i] w fun e w' => e = .returned (.bool false) ∧ w = w' := by
  obtain ⟨v, u, h1, h2, h3, h4⟩ := h
  obtain ⟨p, cap, rfl⟩ := row_slice h2
  have c0 : w.cell? ⟨g, 0, none⟩ = some (.slice p xs.length cap) := cell_of h1 0 rfl
  clear h4 h2 h3
  by_cases h0 : i < 0
  · have d2 : decide (0 ≤ i) = false := by simp; omega
    clear hi
    go_enter Tryd.func66, Tryd.ntmps66
    go_wp2_with fail
    go_ret
    exact ⟨rfl, rfl⟩
  · have d1 : decide (i < (xs.length : Int)) = false := by simp; omega
    have d2 : decide (0 ≤ i) = true := by simp; omega
    clear hi
    go_enter Tryd.func66, Tryd.ntmps66
    go_wp2_with fail
    go_ret
    exact ⟨rfl, rfl⟩
theorem row_cell2 {w : World} {e : Nat} {v : Value} {n : Nat} {xs : List Value} (h : w.ownsRow 0 e 2 v n xs) (j : Nat) (hj : j < n) : ∃ g cap, v = .slice (some ⟨g, 0, none⟩) n cap ∧ n ≤ cap ∧ ∀ i, i < 2 → w.cell? ⟨g, j * 2 + i, none⟩ = xs[j * 2 + i]? := by
  obtain ⟨h0, h⟩ := h
  rcases h with ⟨rfl, rfl⟩ | ⟨g, cap, cur, rfl, h1, h2, h3, h4, h5, h6⟩
  · omega
  · refine ⟨g, cap, rfl, h3, fun i hi => ?_⟩
    have e1 : xs[j * 2 + i]? = cur[j * 2 + i]? := by rw [← h6, List.getElem?_take, if_pos (by omega)]; simp
    rw [e1]; simp [World.cell?, h2]
/-- A pair's parts; of a null cell nothing. -/
def pr (x : Option (Int × ByteArray)) : Int × ByteArray := x.getD (0, ⟨#[]⟩)
theorem cellsPair_cons (x : Option (Int × ByteArray)) (r : List (Option (Int × ByteArray))) : cellsPair (x :: r) = .int .i64 (pr x).1 :: .string (pr x).2 :: cellsPair r := by
  cases x <;> rfl
theorem cellsPair_get : ∀ (xs : List (Option (Int × ByteArray))) (j : Nat) (x : Option (Int × ByteArray)), xs[j]? = some x → (cellsPair xs)[j * 2 + 0]? = some (.int .i64 (pr x).1) ∧ (cellsPair xs)[j * 2 + 1]? = some (.string (pr x).2)
  | [], j, x, h => by simp at h
  | y :: r, 0, x, h => by
    obtain rfl : y = x := by simpa using h
    rw [cellsPair_cons]; exact ⟨rfl, rfl⟩
  | y :: r, j + 1, x, h => by
    have ih := cellsPair_get r j x (by simpa using h)
    rw [cellsPair_cons]
    have e0 : (j + 1) * 2 + 0 = (j * 2 + 0) + 1 + 1 := by omega
    have e1 : (j + 1) * 2 + 1 = (j * 2 + 1) + 1 + 1 := by omega
    rw [e0, e1]
    simpa using ih
theorem results_cell3 {fn : Func} {p a b : Tmp} (h : fn.results = #[.cell p 68, .tmp a, .tmp b]) (tmps : Array Value) (w : World) (g : Nat) (cs : Array Value)
    (hp : tmps.getD p undef = .pointer (some ⟨g, 0, none⟩)) (hg : w.heap[g]? = some (.cells cs 68)) (hs : cs.size = 2) :
    (results fn tmps).run Tryd.prog w = .ok (.tuple #[.agg cs, tmps.getD a undef, tmps.getD b undef]) w := by
  have hp' : tmps[p]?.getD undef = .pointer (some ⟨g, 0, none⟩) := by simpa using hp
  simp [results, h, hp', asAddr, run_loadVar_row w g 68 68 cs (0, 0) _ hg Tryd.underlying68 rfl (by rw [hs]; exact info68)]
set_option maxRecDepth 20000 in
set_option maxHeartbeats 3200000 in
theorem atYesPair (w : World) (g : Nat) (xs : List (Option (Int × ByteArray))) (F : Nat → Prop) (h : ColPair w g xs F) (hn : xs.length ≤ 17592186044416) (i : Nat) (x : Option (Int × ByteArray)) (hx : xs[i]? = some x) :
    Calls Tryd.prog 41 #[.pointer (some ⟨g, 0, none⟩), .int .i64 i] w fun e w' => e = .returned (.tuple #[.agg #[.int .i64 (pr x).1, .string (pr x).2], .bool x.isSome, .int .i64 0]) ∧ Below w.heap.size w w' := by
  have hi : i < xs.length := (List.getElem?_eq_some_iff.1 hx).1
  obtain ⟨W0, hW0⟩ : ∃ W0, W0 = w.alloc (.cells #[.int .i64 0, .string ⟨#[]⟩] 68) := ⟨_, rfl⟩
  have hb0 : Below w.heap.size w W0 := by rw [hW0]; exact below1 _ _
  have hz : W0.heap[w.heap.size]? = some (.cells #[.int .i64 0, .string ⟨#[]⟩] 68) := by rw [hW0]; exact heap_new _ _ rfl
  replace h : ColPair W0 g xs F := h.below hb0
  have hc := hasYesPair W0 g xs F h i hi
  obtain ⟨v, u, h1, h2, h3, h4⟩ := h
  obtain ⟨r, cap, rfl, hcap, hcell⟩ := row_cell2 h2 i hi
  have hb : (xs.map Option.isNone)[i]? = some x.isNone := by rw [List.getElem?_map, hx]; rfl
  have hM : ∀ W, Below W0.heap.size W0 W → Calls Tryd.prog 63 #[.pointer (some ⟨g, 1, none⟩), .int .i64 i] W fun e w' => e = .returned (.bool x.isNone) ∧ W = w' := fun W hW =>
    atM W g 117 (.slice (some ⟨r, 0, none⟩) xs.length cap) u _ ((hW.block g (lt_of_heap h1)).trans h1) (row_keep h3 fun j hj => hW.block j (row_lt h3 hj)) (by simp; omega) i _ hb
  have hce0 : W0.cell? ⟨r, i * 2, none⟩ = some (.int .i64 (pr x).1) := (hcell 0 (by omega)).trans (cellsPair_get xs i x hx).1
  have hce1 : W0.cell? ⟨r, i * 2 + 1, none⟩ = some (.string (pr x).2) := (hcell 1 (by omega)).trans (cellsPair_get xs i x hx).2
  have hown := fun W => ownPair (pr x) W
  have c0 : W0.cell? ⟨g, 0, none⟩ = some (.slice (some ⟨r, 0, none⟩) xs.length cap) := cell_of h1 0 rfl
  have okd : Below W0.heap.size W0 W0.drew := ⟨rfl, rfl, rfl, Nat.le_refl _, fun _ _ => rfl⟩
  have hgl : g < W0.heap.size := lt_of_heap h1
  have hrl : r < W0.heap.size := row_lt h2 rfl
  have hzl : w.heap.size < W0.heap.size := lt_of_heap hz
  have H0 := Lib.hid hW0
  clear h1 h2 h3 h4 hb hcell hx hW0
  generalize pr x = y at *
  obtain ⟨ya, yb⟩ := y
  simp only at hce0 hce1 hown
  generalize xs.length = N at *
  go_enter Tryd.func41, Tryd.ntmps41
  go_wp2_with (go_at_call 66; rw [← H0.out]; (with_reducible refine hc.mono ?_); rintro e w1 ⟨rfl, rfl⟩)
  go_region_with (first
    | (go_at_call 65; refine (hown _).mono ?_; rintro e w5 ⟨rfl, hb5⟩
       replace hb5 : Below W0.heap.size W0 w5 := ⟨hb5.os, hb5.tape, hb5.output, hb5.size, hb5.block⟩
       have c5 : w5.cell? ⟨g, 0, none⟩ = some (.slice (some ⟨r, 0, none⟩) N cap) := (hb5.cell (p := ⟨g, 0, none⟩) hgl).trans c0
       have c6 : w5.cell? ⟨r, i * 2, none⟩ = some (.int .i64 ya) := (hb5.cell (p := ⟨r, i * 2, none⟩) hrl).trans hce0
       have c7 : w5.cell? ⟨r, i * 2 + 1, none⟩ = some (.string yb) := (hb5.cell (p := ⟨r, i * 2 + 1, none⟩) hrl).trans hce1
       have z5 := (hb5.block _ hzl).trans hz
       have z6 : w5.cell? ⟨w.heap.size, 0, none⟩ = some (.int .i64 0) := cell_of z5 0 rfl
       have z7 : w5.cell? ⟨w.heap.size, 1, none⟩ = some (.string ⟨#[]⟩) := cell_of z5 1 rfl
       have z8 : w5.frozen? ⟨w.heap.size, 0, none⟩ = false := free_of z5 0
       have z9 : w5.frozen? ⟨w.heap.size, 1, none⟩ = false := free_of z5 1)
    | (go_at_call 63; refine (hM _ ?_).mono ?_; (first | exact okd | exact hb5); rintro e w6 ⟨rfl, rfl⟩))
  all_goals
    go_wp2_with fail
    have b5 := below_any hb0 hb5 hb0.size
    have b6 := below_set (e := w.heap.size) (o := 0) b5 none (.int .i64 ya) (Nat.le_refl _) b5.size
    have b7 := below_set (e := w.heap.size) (o := 1) b6 none (.string yb) (Nat.le_refl _) b6.size
    exact bodyPost_ret (v := .tuple #[.agg #[.int .i64 ya, .string yb], .bool x.isSome, .int .i64 0]) (results_cell3 (p := 4) (a := 5) (b := 6) Tryd.results41 _ _ w.heap.size #[.int .i64 ya, .string yb] rfl (heap_set (heap_set z5 0 _) 1 _) rfl) rfl ⟨rfl, b7⟩
end Go.Proofs.YtffbcccbhofbpaaDoor
