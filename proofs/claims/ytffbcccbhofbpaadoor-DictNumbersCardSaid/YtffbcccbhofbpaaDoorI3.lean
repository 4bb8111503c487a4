/- A dictionary of pairs. -/
import Derived.Test.YtffbcccbhofbpaaDoorI1
import Derived.Test.YtffbcccbhofbpaaDoorC6
import Derived.WideKeyPair
import Derived.DeepKeys4
namespace Go.Proofs.YtffbcccbhofbpaaDoor
open Go.RowKit

theorem info99 : (Tryd.prog.info? 99).map (·.size) = some 2 := by kernel_rfl
theorem info41i : (Tryd.prog.info? 41).map (fun i => (i.zero, i.size, i.bytes)) = some (some (.agg #[.int .i64 0, .int .i64 0]), 2, 16) := by kernel_rfl
theorem info41 : (Tryd.prog.info? 41).map (·.size) = some 2 := by kernel_rfl
set_option maxRecDepth 20000 in
set_option maxHeartbeats 1600000 in
theorem ownP (n : Int) (w : World) : Calls Tryd.prog 70 #[.agg #[.int .i64 n, .int .i64 7]] w fun e w' => e = .returned (.agg #[.int .i64 n, .int .i64 7]) ∧ Below w.heap.size w w' := by
  have t1 : ∀ (p : Option Addr) w, (Instr.typeAssert (.iface 140 (.pointer p)) 20 130 true).run Tryd.prog w = .ok (.tuple #[.pointer none, .bool false]) w := fun _ _ => by kernel_rfl
  have t2 : ∀ (p : Option Addr) w, (Instr.typeAssert (.iface 140 (.pointer p)) 20 131 true).run Tryd.prog w = .ok (.tuple #[.pointer none, .bool false]) w := fun _ _ => by kernel_rfl
  have t3 : ∀ (p : Option Addr) w, (Instr.typeAssert (.iface 140 (.pointer p)) 20 133 true).run Tryd.prog w = .ok (.tuple #[.pointer none, .bool false]) w := fun _ _ => by kernel_rfl
  go_enter Tryd.func70, Tryd.ntmps70
  go_wp2_with (simp only [t1, t2, t3, Result.andThen_ok])
  exact bodyPost_ret (v := .agg #[.int .i64 n, .int .i64 7]) (results_cell_row (p := 2) (ty := 41) Tryd.results70 _ _ (w.heap.size + 1) 41 #[.int .i64 n, .int .i64 7] (0, 0) _ rfl (heap_new _ _ (by simp)) Tryd.underlying41 rfl info41) rfl ⟨rfl, below2 _ _ _⟩
/-- The cells of a row of pairs (k, 7). -/
def cellsP (l : List Int) : List Value := l.flatMap fun n => [.int .i64 n, .int .i64 7]
theorem cellsP_snoc (l : List Int) (k : Int) : cellsP (l ++ [k]) = cellsP l ++ [.int .i64 k, .int .i64 7] := by simp [cellsP]
/-- The key that a pair (k, 7) is. -/
def kP (k : Int) : Lit := .string (keyBytes [.int .i64 k, .int .i64 7])
theorem arr41 : Go.WideMaps.ArrKey Tryd.prog 41 3 2 := ⟨Tryd.underlying41, by kernel_rfl, by kernel_rfl, by kernel_rfl⟩
theorem keyP (k : Int) (h : (Lit.int .i64 k).wf = true) : keyOf Tryd.prog 41 (.agg #[.int .i64 k, .int .i64 7]) = some (kP k) :=
  Go.WideMaps.keyOf_pair arr41 Tryd.underlying3 ⟨Tryd.prog.types.size - 1, by kernel_rfl⟩ h (show (Lit.int .i64 7).wf = true by decide)
theorem law9P : Go.Maps.Keyed Tryd.prog 41 := Go.Maps.Keyed.of_law (deep_law_laid (by kernel_rfl) (m := 2) (by omega) (of_decide_eq_true (by kernel_rfl)) (by kernel_rfl) (by kernel_rfl))
theorem kP_inj {a b : Int} (ha : (Lit.int .i64 a).wf = true) (hb : (Lit.int .i64 b).wf = true) (h : kP a = kP b) : a = b := by
  have h1 := keyP a ha
  rw [h] at h1
  have := law9P.inj h1 (keyP b hb)
  simpa using this
/-- What a map holds that numbers texts. -/
def ReadsP (D : DataW Unit) (l : List Int) : Prop :=
  ∀ k : Int, (Lit.int .i64 k).wf = true → (k ∈ l → Maps.has D (kP k) = true) ∧ (k ∉ l → Maps.has D (kP k) = false) ∧ ∀ (j : Nat), l[j]? = some k → ∀ z, D.atKey (kP k) z = .lit (.int .i64 j)
/-- A dictionary of texts l lies at block g; its blocks are F. -/
def DicP (w : World) (g : Nat) (l : List Int) (F : Nat → Prop) : Prop :=
  ∃ T, T ≠ 41 ∧ ∃ bm v D, w.heap[g]? = some (.cells #[.map (some bm), v] T) ∧ w.ownsMap Tryd.prog 41 (plainElem Tryd.prog 3) bm l.length D ∧ ReadsP D l ∧ w.ownsRow 0 41 2 v l.length (cellsP l) ∧ l.Nodup ∧ (∀ s ∈ l, (Lit.int .i64 s).wf = true) ∧ ∀ i, F i ↔ i = g ∨ i = bm ∨ v.ownBlock = some i
theorem DicP.lt {w : World} {g : Nat} {l : List Int} {F : Nat → Prop} (h : DicP w g l F) {i : Nat} (hi : F i) : i < w.heap.size := by
  obtain ⟨T, hT, bm, v, D, h1, h2, h3, h4, h5, h6, h7⟩ := h
  rcases (h7 i).1 hi with rfl | rfl | e
  · exact lt_of_heap h1
  · exact h2.lt
  · exact row_lt h4 e
theorem DicP.keep {w w' : World} {g : Nat} {l : List Int} {F : Nat → Prop} (h : DicP w g l F) (k : ∀ i, F i → w'.heap[i]? = w.heap[i]?) : DicP w' g l F := by
  obtain ⟨T, hT, bm, v, D, h1, h2, h3, h4, h5, h6, h7⟩ := h
  exact ⟨T, hT, bm, v, D, (k g ((h7 g).2 (.inl rfl))).trans h1, map_keep h2 (k bm ((h7 bm).2 (.inr (.inl rfl)))), h3, row_keep h4 fun i hi => k i ((h7 i).2 (.inr (.inr hi))), h5, h6, h7⟩
theorem DicP.below {w w' : World} {g : Nat} {l : List Int} {F : Nat → Prop} (h : DicP w g l F) (k : Below w.heap.size w w') : DicP w' g l F := h.keep fun i hi => k.block i (h.lt hi)
theorem DicP.ch {w w' : World} {g : Nat} {l : List Int} {F G : Nat → Prop} (h : DicP w g l F) (k : Ch G w w') (d : ∀ i, F i → ¬ G i) : DicP w' g l F := h.keep fun i hi => k.block i (h.lt hi) (d i hi)

set_option maxRecDepth 20000 in
set_option maxHeartbeats 1600000 in
theorem newNumAtP (w : World) : Calls Tryd.prog 52 #[] w fun e w' => e = .returned (.agg #[.map (some (w.heap.size + 1)), .slice none 0 0]) ∧ Below w.heap.size w w' ∧ w'.heap[w.heap.size + 1]? = some (.map #[] 0) := by
  have hmm := @run_makeMap Tryd.prog
  go_enter Tryd.func52, Tryd.ntmps52
  go_wp2_with fail
  refine bodyPost_ret (v := .agg #[.map (some (w.heap.size + 1)), .slice none 0 0]) (results_cell_row (p := 0) (ty := 99) Tryd.results52 _ _ w.heap.size 99 #[.map (some (w.heap.size + 1)), .slice none 0 0] (0, 0) _ rfl ?_ Tryd.underlying99 rfl info99) rfl ⟨rfl, ?_, ?_⟩
  · exact heap_old _ (heap_new _ _ rfl)
  · exact below2 _ _ _
  · exact heap_new _ _ (by simp)
set_option maxRecDepth 20000 in
set_option maxHeartbeats 1600000 in
theorem countAtP (w : World) (g : Nat) (l : List Int) (F : Nat → Prop) (h : DicP w g l F) :
    Calls Tryd.prog 58 #[.pointer (some ⟨g, 0, none⟩)] w fun e w' => e = .returned (.int .i64 l.length) ∧ w = w' := by
  obtain ⟨T, hT, bm, v, D, h1, h2, h3, h4, h5, h6, h7⟩ := h
  obtain ⟨p, cap, rfl⟩ := row_slice h4
  obtain ⟨c0, c1, f1⟩ := Dic.d1 h1
  clear h3 h6 h7
  go_enter Tryd.func58, Tryd.ntmps58
  go_wp2_with fail
  go_ret
  exact ⟨rfl, rfl⟩
/-- A dictionary with nothing in it. -/
theorem dic_newP {w : World} {g bm T : Nat} (hT : T ≠ 41) (h1 : w.heap[g]? = some (.cells #[.map (some bm), .slice none 0 0] T)) (h2 : w.heap[bm]? = some (.map #[] 0)) : DicP w g [] fun i => i = g ∨ i = bm := by
  refine ⟨T, hT, bm, .slice none 0 0, .map [], h1, ⟨#[], 0, h2, ?_⟩, ?_, ?_, List.nodup_nil, by simp, fun i => by simp [Value.ownBlock]⟩
  · obtain ⟨es, clock, e, r⟩ := World.ownsMap_made w Tryd.prog 41 (plainElem (H := Unit) Tryd.prog 3)
    have e2 : (w.alloc (.map #[] 0)).heap[w.heap.size]? = some (.map #[] 0) := heap_new _ _ rfl
    rw [e2] at e
    cases e
    exact r
  · intro k _
    exact ⟨by simp, fun _ => rfl, by simp⟩
  · exact World.ownsRow_nil _ _ _ _
set_option maxRecDepth 20000 in
set_option maxHeartbeats 1600000 in
theorem newAtP (w : World) : Calls Tryd.prog 15 #[] w fun e w' => ∃ g F, e = .returned (.pointer (some ⟨g, 0, none⟩)) ∧ Below w.heap.size w w' ∧ DicP w' g [] F ∧ ∀ i, F i → w.heap.size ≤ i := by
  go_enter Tryd.func15, Tryd.ntmps15
  go_wp2_with (go_at_call 52; (with_reducible refine (newNumAtP _).mono ?_); rintro e w1 ⟨rfl, hb, hm⟩)
  go_ret
  have z1 := lt_of_heap hm
  exact ⟨_, _, rfl, hb.alloc hb.size _, dic_newP (by decide) (heap_new _ _ rfl) (heap_old _ hm), by rintro i (rfl | rfl) <;> omega⟩
set_option maxRecDepth 20000 in
set_option maxHeartbeats 1600000 in
theorem LenAtP (w : World) (g : Nat) (l : List Int) (F : Nat → Prop) (h : DicP w g l F) :
    Calls Tryd.prog 22 #[.pointer (some ⟨g, 0, none⟩)] w fun e w' => e = .returned (.int .i64 l.length) ∧ w = w' := by
  go_enter Tryd.func22, Tryd.ntmps22
  go_wp2_with (go_at_call 58; (with_reducible refine (countAtP w g l F h).mono ?_); rintro e w1 ⟨rfl, rfl⟩)
  go_ret
  exact ⟨rfl, rfl⟩
end Go.Proofs.YtffbcccbhofbpaaDoor
