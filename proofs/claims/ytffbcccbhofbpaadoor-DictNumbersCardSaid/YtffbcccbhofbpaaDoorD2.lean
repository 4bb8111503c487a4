/- A dictionary of texts: a new one. -/
import Derived.Test.YtffbcccbhofbpaaDoorD1
namespace Go.Proofs.YtffbcccbhofbpaaDoor
open Go.RowKit

theorem law9 : Go.Maps.Keyed Tryd.prog 9 := Go.Maps.string_keyed Tryd.underlying9
theorem zeroI (w : World) : (zeroValue 3).run Tryd.prog w = .ok (.int .i64 0) w := by kernel_rfl
theorem info79 : (Tryd.prog.info? 79).map (·.size) = some 2 := by kernel_rfl
theorem info82 : (Tryd.prog.info? 82).map (·.size) = some 2 := by kernel_rfl

/-- What a map holds that numbers texts. -/
def Reads (D : DataW Unit) (l : List ByteArray) : Prop :=
  ∀ k : ByteArray, (k ∈ l → Maps.has D (.string k.data.toList) = true) ∧ (k ∉ l → Maps.has D (.string k.data.toList) = false) ∧ ∀ (j : Nat), l[j]? = some k → ∀ z, D.atKey (.string k.data.toList) z = .lit (.int .i64 j)
/-- A dictionary of texts l lies at block g; its blocks are F. -/
def Dic (w : World) (g : Nat) (l : List ByteArray) (F : Nat → Prop) : Prop :=
  ∃ T, T ≠ 9 ∧ ∃ bm v D, w.heap[g]? = some (.cells #[.map (some bm), v] T) ∧ w.ownsMap Tryd.prog 9 (plainElem Tryd.prog 3) bm l.length D ∧ Reads D l ∧ w.ownsRow 0 9 1 v l.length (l.map Value.string) ∧ l.Nodup ∧ (∀ s ∈ l, s.size ≤ maxLen ∧ s.size ≤ 281474976710656) ∧ ∀ i, F i ↔ i = g ∨ i = bm ∨ v.ownBlock = some i
theorem Dic.lt {w : World} {g : Nat} {l : List ByteArray} {F : Nat → Prop} (h : Dic w g l F) {i : Nat} (hi : F i) : i < w.heap.size := by
  obtain ⟨T, hT, bm, v, D, h1, h2, h3, h4, h5, h6, h7⟩ := h
  rcases (h7 i).1 hi with rfl | rfl | e
  · exact lt_of_heap h1
  · exact h2.lt
  · exact row_lt h4 e
theorem Dic.keep {w w' : World} {g : Nat} {l : List ByteArray} {F : Nat → Prop} (h : Dic w g l F) (k : ∀ i, F i → w'.heap[i]? = w.heap[i]?) : Dic w' g l F := by
  obtain ⟨T, hT, bm, v, D, h1, h2, h3, h4, h5, h6, h7⟩ := h
  exact ⟨T, hT, bm, v, D, (k g ((h7 g).2 (.inl rfl))).trans h1, map_keep h2 (k bm ((h7 bm).2 (.inr (.inl rfl)))), h3, row_keep h4 fun i hi => k i ((h7 i).2 (.inr (.inr hi))), h5, h6, h7⟩
theorem Dic.below {w w' : World} {g : Nat} {l : List ByteArray} {F : Nat → Prop} (h : Dic w g l F) (k : Below w.heap.size w w') : Dic w' g l F := h.keep fun i hi => k.block i (h.lt hi)
theorem Dic.ch {w w' : World} {g : Nat} {l : List ByteArray} {F G : Nat → Prop} (h : Dic w g l F) (k : Ch G w w') (d : ∀ i, F i → ¬ G i) : Dic w' g l F := h.keep fun i hi => k.block i (h.lt hi) (d i hi)

set_option maxRecDepth 20000 in
set_option maxHeartbeats 1600000 in
theorem newNumAt (w : World) : Calls Tryd.prog 43 #[] w fun e w' => e = .returned (.agg #[.map (some (w.heap.size + 1)), .slice none 0 0]) ∧ Below w.heap.size w w' ∧ w'.heap[w.heap.size + 1]? = some (.map #[] 0) := by
  have hmm := @run_makeMap Tryd.prog
  go_enter Tryd.func43, Tryd.ntmps43
  go_wp2_with fail
  refine bodyPost_ret (v := .agg #[.map (some (w.heap.size + 1)), .slice none 0 0]) (results_cell_row (p := 0) (ty := 79) Tryd.results43 _ _ w.heap.size 79 #[.map (some (w.heap.size + 1)), .slice none 0 0] (0, 0) _ rfl ?_ Tryd.underlying79 rfl info79) rfl ⟨rfl, ?_, ?_⟩
  · exact heap_old _ (heap_new _ _ rfl)
  · exact below2 _ _ _
  · exact heap_new _ _ (by simp)
theorem Dic.d1 {w : World} {g T : Nat} {bm : Nat} {v : Value} (h1 : w.heap[g]? = some (.cells #[.map (some bm), v] T)) : w.cell? ⟨g, 0, none⟩ = some (.map (some bm)) ∧ w.cell? ⟨g, 1, none⟩ = some v ∧ w.frozen? ⟨g, 1, none⟩ = false :=
  ⟨cell_of h1 0 rfl, cell_of h1 1 rfl, free_of h1 1⟩
set_option maxRecDepth 20000 in
set_option maxHeartbeats 1600000 in
theorem findNo (w : World) (g : Nat) (l : List ByteArray) (F : Nat → Prop) (h : Dic w g l F) (k : ByteArray) (hk : k ∉ l) (hs : k.size ≤ maxLen) :
    Calls Tryd.prog 44 #[.pointer (some ⟨g, 0, none⟩), .string k] w fun e w' => e = .returned (.tuple #[.int .i64 0, .bool false]) ∧ w = w' := by
  obtain ⟨T, hT, bm, v, D, h1, h2, h3, h4, h5, h6, h7⟩ := h
  obtain ⟨c0, c1, f1⟩ := Dic.d1 h1
  have hkey := Go.WideMaps.keyOf_string_mk Tryd.underlying9 hs
  have hat := Maps.atKey_of_not_has ((h3 k).2.1 hk) (.lit (.int .i64 0))
  have HH := Lib.hid ((h3 k).2.1 hk)
  have HA := Lib.hid hat
  clear hat h3 h6 h7
  go_enter Tryd.func44, Tryd.ntmps44
  go_wp2_with (at_lookup; refine wpList_lookup_own_ok_int _ rfl _ _ 77 rfl 9 3 .i64 law9 Tryd.underlying77 Tryd.underlying3 (zeroI _) bm _ D rfl h2 _ _ rfl hkey ?_; intro c hat2 _; obtain rfl : c = 0 := (by simpa using hat2.symm.trans HA.out); rw [HH.out]; clear hat2)
  go_ret2
  exact ⟨rfl, rfl⟩
set_option maxRecDepth 20000 in
set_option maxHeartbeats 1600000 in
theorem findYes (w : World) (g : Nat) (l : List ByteArray) (F : Nat → Prop) (h : Dic w g l F) (k : ByteArray) (j : Nat) (hk : l[j]? = some k) (hs : k.size ≤ maxLen) :
    Calls Tryd.prog 44 #[.pointer (some ⟨g, 0, none⟩), .string k] w fun e w' => e = .returned (.tuple #[.int .i64 j, .bool true]) ∧ w = w' := by
  obtain ⟨T, hT, bm, v, D, h1, h2, h3, h4, h5, h6, h7⟩ := h
  obtain ⟨c0, c1, f1⟩ := Dic.d1 h1
  have hkey := Go.WideMaps.keyOf_string_mk Tryd.underlying9 hs
  have HA := Lib.hid ((h3 k).2.2 j hk (.lit (.int .i64 0)))
  have HH := Lib.hid ((h3 k).1 (List.mem_of_getElem? hk))
  clear h3 h6 h7 hk
  go_enter Tryd.func44, Tryd.ntmps44
  go_wp2_with (at_lookup; refine wpList_lookup_own_ok_int _ rfl _ _ 77 rfl 9 3 .i64 law9 Tryd.underlying77 Tryd.underlying3 (zeroI _) bm _ D rfl h2 _ _ rfl hkey ?_; intro c hat2 _; obtain rfl : c = j := (by simpa using hat2.symm.trans HA.out); rw [HH.out]; clear hat2)
  go_ret2
  exact ⟨rfl, rfl⟩
set_option maxRecDepth 20000 in
set_option maxHeartbeats 1600000 in
theorem countAt (w : World) (g : Nat) (l : List ByteArray) (F : Nat → Prop) (h : Dic w g l F) :
    Calls Tryd.prog 46 #[.pointer (some ⟨g, 0, none⟩)] w fun e w' => e = .returned (.int .i64 l.length) ∧ w = w' := by
  obtain ⟨T, hT, bm, v, D, h1, h2, h3, h4, h5, h6, h7⟩ := h
  obtain ⟨p, cap, rfl⟩ := row_slice h4
  obtain ⟨c0, c1, f1⟩ := Dic.d1 h1
  clear h3 h6 h7
  go_enter Tryd.func46, Tryd.ntmps46
  go_wp2_with fail
  go_ret
  exact ⟨rfl, rfl⟩
/-- A dictionary with nothing in it. -/
theorem dic_new {w : World} {g bm T : Nat} (hT : T ≠ 9) (h1 : w.heap[g]? = some (.cells #[.map (some bm), .slice none 0 0] T)) (h2 : w.heap[bm]? = some (.map #[] 0)) : Dic w g [] fun i => i = g ∨ i = bm := by
  refine ⟨T, hT, bm, .slice none 0 0, .map [], h1, ⟨#[], 0, h2, ?_⟩, ?_, ?_, List.nodup_nil, by simp, fun i => by simp [Value.ownBlock]⟩
  · obtain ⟨es, clock, e, r⟩ := World.ownsMap_made w Tryd.prog 9 (plainElem (H := Unit) Tryd.prog 3)
    have e2 : (w.alloc (.map #[] 0)).heap[w.heap.size]? = some (.map #[] 0) := heap_new _ _ rfl
    rw [e2] at e
    cases e
    exact r
  · intro k
    exact ⟨by simp, fun _ => rfl, by simp⟩
  · exact World.ownsRow_nil _ _ _ _
set_option maxRecDepth 20000 in
set_option maxHeartbeats 1600000 in
theorem newAt (w : World) : Calls Tryd.prog 7 #[] w fun e w' => ∃ g F, e = .returned (.pointer (some ⟨g, 0, none⟩)) ∧ Below w.heap.size w w' ∧ Dic w' g [] F ∧ ∀ i, F i → w.heap.size ≤ i := by
  go_enter Tryd.func7, Tryd.ntmps7
  go_wp2_with (go_at_call 43; (with_reducible refine (newNumAt _).mono ?_); rintro e w1 ⟨rfl, hb, hm⟩)
  go_ret
  have z1 := lt_of_heap hm
  exact ⟨_, _, rfl, hb.alloc hb.size _, dic_new (by decide) (heap_new _ _ rfl) (heap_old _ hm), by rintro i (rfl | rfl) <;> omega⟩
set_option maxRecDepth 20000 in
set_option maxHeartbeats 1600000 in
theorem FindNo (w : World) (g : Nat) (l : List ByteArray) (F : Nat → Prop) (h : Dic w g l F) (k : ByteArray) (hk : k ∉ l) (hs : k.size ≤ maxLen) :
    Calls Tryd.prog 9 #[.pointer (some ⟨g, 0, none⟩), .string k] w fun e w' => e = .returned (.tuple #[.int .i64 0, .bool false]) ∧ w = w' := by
  go_enter Tryd.func9, Tryd.ntmps9
  go_wp2_with (go_at_call 44; (with_reducible refine (findNo w g l F h k hk hs).mono ?_); rintro e w1 ⟨rfl, rfl⟩)
  go_ret2
  exact ⟨rfl, rfl⟩
set_option maxRecDepth 20000 in
set_option maxHeartbeats 1600000 in
theorem FindYes (w : World) (g : Nat) (l : List ByteArray) (F : Nat → Prop) (h : Dic w g l F) (k : ByteArray) (j : Nat) (hk : l[j]? = some k) (hs : k.size ≤ maxLen) :
    Calls Tryd.prog 9 #[.pointer (some ⟨g, 0, none⟩), .string k] w fun e w' => e = .returned (.tuple #[.int .i64 j, .bool true]) ∧ w = w' := by
  go_enter Tryd.func9, Tryd.ntmps9
  go_wp2_with (go_at_call 44; (with_reducible refine (findYes w g l F h k j hk hs).mono ?_); rintro e w1 ⟨rfl, rfl⟩)
  go_ret2
  exact ⟨rfl, rfl⟩
set_option maxRecDepth 20000 in
set_option maxHeartbeats 1600000 in
theorem LenAt (w : World) (g : Nat) (l : List ByteArray) (F : Nat → Prop) (h : Dic w g l F) :
    Calls Tryd.prog 11 #[.pointer (some ⟨g, 0, none⟩)] w fun e w' => e = .returned (.int .i64 l.length) ∧ w = w' := by
  go_enter Tryd.func11, Tryd.ntmps11
  go_wp2_with (go_at_call 46; (with_reducible refine (countAt w g l F h).mono ?_); rintro e w1 ⟨rfl, rfl⟩)
  go_ret
  exact ⟨rfl, rfl⟩
end Go.Proofs.YtffbcccbhofbpaaDoor
