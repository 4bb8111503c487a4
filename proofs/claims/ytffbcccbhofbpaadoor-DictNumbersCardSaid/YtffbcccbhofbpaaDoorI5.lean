/- A dictionary of pairs: what it exports. -/
import Derived.Test.YtffbcccbhofbpaaDoorI4
import Derived.Test.YtffbcccbhofbpaaDoorC10
namespace Go.Proofs.YtffbcccbhofbpaaDoor
open Go.RowKit

set_option maxRecDepth 20000 in
set_option maxHeartbeats 1600000 in
theorem IDYesP (w : World) (g : Nat) (l : List Int) (F : Nat → Prop) (h : DicP w g l F) (k : Int) (j : Nat) (hk : l[j]? = some k) (hs : (Lit.int .i64 k).wf = true) :
    Calls Tryd.prog 17 #[.pointer (some ⟨g, 0, none⟩), .agg #[.int .i64 k, .int .i64 7]] w fun e w' => e = .returned (.int .i64 j) ∧ Below w.heap.size w w' := by
  obtain ⟨W0, hW0⟩ : ∃ W0, W0 = w.alloc (.cells #[.int .i64 k, .int .i64 7] 41) := ⟨_, rfl⟩
  have hb0 : Below w.heap.size w W0 := by rw [hW0]; exact below1 _ _
  have hx : W0.heap[w.heap.size]? = some (.cells #[.int .i64 k, .int .i64 7] 41) := by rw [hW0]; exact heap_new _ _ rfl
  have x0 : W0.cell? ⟨w.heap.size, 0, none⟩ = some (.int .i64 k) := cell_of hx 0 rfl
  have x1 : W0.cell? ⟨w.heap.size, 1, none⟩ = some (.int .i64 7) := cell_of hx 1 rfl
  have H0 := Lib.hid hW0
  clear hW0 hx
  have hc := numberYesP W0.drew g l F (h.below hb0.drew) k j hk hs
  clear h hk
  go_enter Tryd.func17, Tryd.ntmps17
  go_wp2_with fail
  rw [← H0.out]
  go_region_with (go_at_call 54; refine hc.mono ?_; rintro e w1 ⟨rfl, hb1⟩)
  all_goals
    go_wp2_with fail
    go_ret
    exact ⟨rfl, below_any hb0.drew hb1 hb0.drew.size⟩
set_option maxRecDepth 20000 in
set_option maxHeartbeats 1600000 in
theorem IDNoP (w : World) (g : Nat) (l : List Int) (F : Nat → Prop) (h : DicP w g l F) (k : Int) (hk : k ∉ l) (hs : (Lit.int .i64 k).wf = true) (hn : l.length ≤ 1048576) :
    Calls Tryd.prog 17 #[.pointer (some ⟨g, 0, none⟩), .agg #[.int .i64 k, .int .i64 7]] w fun e w' => ∃ F', e = .returned (.int .i64 l.length) ∧ DicP w' g (l ++ [k]) F' ∧ Turn F F' w w' := by
  obtain ⟨W0, hW0⟩ : ∃ W0, W0 = w.alloc (.cells #[.int .i64 k, .int .i64 7] 41) := ⟨_, rfl⟩
  have hb0 : Below w.heap.size w W0 := by rw [hW0]; exact below1 _ _
  have hx : W0.heap[w.heap.size]? = some (.cells #[.int .i64 k, .int .i64 7] 41) := by rw [hW0]; exact heap_new _ _ rfl
  have x0 : W0.cell? ⟨w.heap.size, 0, none⟩ = some (.int .i64 k) := cell_of hx 0 rfl
  have x1 : W0.cell? ⟨w.heap.size, 1, none⟩ = some (.int .i64 7) := cell_of hx 1 rfl
  have H0 := Lib.hid hW0
  clear hW0 hx
  have hc := numberNoP W0.drew g l F (h.below hb0.drew) k hk hs hn
  clear h hk
  go_enter Tryd.func17, Tryd.ntmps17
  go_wp2_with fail
  rw [← H0.out]
  go_region_with (go_at_call 54; refine hc.mono ?_; rintro e w1 ⟨F', rfl, hd, ht⟩)
  all_goals
    go_wp2_with fail
    go_ret
    exact ⟨_, rfl, hd, turn_first hb0.drew ht⟩
theorem cellsP_get : ∀ (xs : List Int) (j : Nat) (x : Int), xs[j]? = some x → (cellsP xs)[j * 2 + 0]? = some (.int .i64 x) ∧ (cellsP xs)[j * 2 + 1]? = some (.int .i64 7)
  | [], j, x, h => by simp at h
  | y :: r, 0, x, h => by
    obtain rfl : y = x := by simpa using h
    exact ⟨rfl, rfl⟩
  | y :: r, j + 1, x, h => by
    have ih := cellsP_get r j x (by simpa using h)
    have e : cellsP (y :: r) = .int .i64 y :: .int .i64 7 :: cellsP r := rfl
    rw [e, show (j + 1) * 2 + 0 = (j * 2 + 0) + 1 + 1 by omega, show (j + 1) * 2 + 1 = (j * 2 + 1) + 1 + 1 by omega]
    simpa using ih
theorem results_cell2P {fn : Func} {p a : Tmp} (h : fn.results = #[.cell p 41, .tmp a]) (tmps : Array Value) (w : World) (g : Nat) (cs : Array Value)
    (hp : tmps.getD p undef = .pointer (some ⟨g, 0, none⟩)) (hg : w.heap[g]? = some (.cells cs 41)) (hs : cs.size = 2) :
    (results fn tmps).run Tryd.prog w = .ok (.tuple #[.agg cs, tmps.getD a undef]) w := by
  have hp' : tmps[p]?.getD undef = .pointer (some ⟨g, 0, none⟩) := by simpa using hp
  simp [results, h, hp', asAddr, run_loadVar_row w g 41 41 cs (0, 0) _ hg Tryd.underlying41 rfl (by rw [hs]; exact info41)]
set_option maxRecDepth 20000 in
set_option maxHeartbeats 1600000 in
theorem keyYesP (w : World) (g : Nat) (l : List Int) (F : Nat → Prop) (h : DicP w g l F) (j : Nat) (k : Int) (hk : l[j]? = some k) (hn : l.length ≤ 1048576) :
    Calls Tryd.prog 56 #[.pointer (some ⟨g, 0, none⟩), .int .i64 j] w fun e w' => e = .returned (.tuple #[.agg #[.int .i64 k, .int .i64 7], .bool true]) ∧ Below w.heap.size w w' := by
  obtain ⟨T, hT, bm, v, D, h1, h2, h3, h4, h5, h6, h7⟩ := h
  have hj : j < l.length := (List.getElem?_eq_some_iff.1 hk).1
  obtain ⟨W0, hW0⟩ : ∃ W0, W0 = w.alloc (.cells #[.int .i64 0, .int .i64 0] 41) := ⟨_, rfl⟩
  have hb0 : Below w.heap.size w W0 := by rw [hW0]; exact below1 _ _
  have hz : W0.heap[w.heap.size]? = some (.cells #[.int .i64 0, .int .i64 0] 41) := by rw [hW0]; exact heap_new _ _ rfl
  have hzl : w.heap.size < W0.heap.size := lt_of_heap hz
  replace h1 := (hb0.block g (lt_of_heap h1)).trans h1
  replace h4 := row_keep (w' := W0) h4 fun i q => hb0.block i (row_lt h4 q)
  obtain ⟨r, cap, rfl, hcap, hcell⟩ := row_cell2 h4 j hj
  have hce0 : W0.cell? ⟨r, j * 2, none⟩ = some (.int .i64 k) := (hcell 0 (by omega)).trans (cellsP_get l j k hk).1
  have hce1 : W0.cell? ⟨r, j * 2 + 1, none⟩ = some (.int .i64 7) := (hcell 1 (by omega)).trans (cellsP_get l j k hk).2
  obtain ⟨c0, c1, f1⟩ := Dic.d1 h1
  have H0 := Lib.hid hW0
  clear h2 h3 h6 h7 hk hcell hW0 h4
  generalize l.length = N at *
  go_enter Tryd.func56, Tryd.ntmps56
  go_upto_region 1 with fail
  rw [← H0.out]
  go_wp2_with (go_at_call 70; (with_reducible refine (ownP k _).mono ?_); rintro e w1 ⟨rfl, hb1⟩
               replace hb1 : Below W0.heap.size W0 w1 := ⟨hb1.os, hb1.tape, hb1.output, hb1.size, hb1.block⟩
               have z5 := (hb1.block _ hzl).trans hz
               have z6 : w1.cell? ⟨w.heap.size, 0, none⟩ = some (.int .i64 0) := cell_of z5 0 rfl
               have z7 : w1.cell? ⟨w.heap.size, 1, none⟩ = some (.int .i64 0) := cell_of z5 1 rfl
               have z8 : w1.frozen? ⟨w.heap.size, 0, none⟩ = false := free_of z5 0
               have z9 : w1.frozen? ⟨w.heap.size, 1, none⟩ = false := free_of z5 1)
  have b5 := below_any hb0 hb1 hb0.size
  have b6 := below_set (e := w.heap.size) (o := 0) b5 none (.int .i64 k) (Nat.le_refl _) b5.size
  have b7 := below_set (e := w.heap.size) (o := 1) b6 none (.int .i64 7) (Nat.le_refl _) b6.size
  exact bodyPost_ret (v := .tuple #[.agg #[.int .i64 k, .int .i64 7], .bool true]) (results_cell2P (p := 4) (a := 5) Tryd.results56 _ _ w.heap.size #[.int .i64 k, .int .i64 7] rfl (heap_set (heap_set z5 0 _) 1 _) rfl) rfl ⟨rfl, b7⟩
set_option maxRecDepth 20000 in
set_option maxHeartbeats 1600000 in
theorem KeyYesP (w : World) (g : Nat) (l : List Int) (F : Nat → Prop) (h : DicP w g l F) (j : Nat) (k : Int) (hk : l[j]? = some k) (hn : l.length ≤ 1048576) :
    Calls Tryd.prog 20 #[.pointer (some ⟨g, 0, none⟩), .int .i64 j] w fun e w' => e = .returned (.tuple #[.agg #[.int .i64 k, .int .i64 7], .bool true]) ∧ Below w.heap.size w w' := by
  obtain ⟨W0, hW0⟩ : ∃ W0, W0 = w.alloc (.cells #[.int .i64 0, .int .i64 0] 41) := ⟨_, rfl⟩
  have hb0 : Below w.heap.size w W0 := by rw [hW0]; exact below1 _ _
  have hz : W0.heap[w.heap.size]? = some (.cells #[.int .i64 0, .int .i64 0] 41) := by rw [hW0]; exact heap_new _ _ rfl
  have hzl : w.heap.size < W0.heap.size := lt_of_heap hz
  have hc := keyYesP W0 g l F (h.below hb0) j k hk hn
  have H0 := Lib.hid hW0
  clear h hk hW0
  go_enter Tryd.func20, Tryd.ntmps20
  go_wp2_with (go_at_call 56; rw [← H0.out]; (with_reducible refine hc.mono ?_); rintro e w1 ⟨rfl, hb1⟩
               have z5 := (hb1.block _ hzl).trans hz
               have z6 : w1.cell? ⟨w.heap.size, 0, none⟩ = some (.int .i64 0) := cell_of z5 0 rfl
               have z7 : w1.cell? ⟨w.heap.size, 1, none⟩ = some (.int .i64 0) := cell_of z5 1 rfl
               have z8 : w1.frozen? ⟨w.heap.size, 0, none⟩ = false := free_of z5 0
               have z9 : w1.frozen? ⟨w.heap.size, 1, none⟩ = false := free_of z5 1)
  have b5 := below_any hb0 hb1 hb0.size
  have b6 := below_set (e := w.heap.size) (o := 0) b5 none (.int .i64 k) (Nat.le_refl _) b5.size
  have b7 := below_set (e := w.heap.size) (o := 1) b6 none (.int .i64 7) (Nat.le_refl _) b6.size
  exact bodyPost_ret (v := .tuple #[.agg #[.int .i64 k, .int .i64 7], .bool true]) (results_cell2P (p := 4) (a := 5) Tryd.results20 _ _ w.heap.size #[.int .i64 k, .int .i64 7] rfl (heap_set (heap_set z5 0 _) 1 _) rfl) rfl ⟨rfl, b7⟩
end Go.Proofs.YtffbcccbhofbpaaDoor
