/- A dictionary of numbers. -/
import Derived.Test.YtffbcccbhofbpaaDoorF0
namespace Go.Proofs.YtffbcccbhofbpaaDoor
open Go.RowKit

theorem info92 : (Tryd.prog.info? 92).map (·.size) = some 2 := by kernel_rfl
theorem info3i : (Tryd.prog.info? 3).map (fun i => (i.zero, i.size, i.bytes)) = some (some (.int .i64 0), 1, 8) := by kernel_rfl
set_option maxRecDepth 20000 in
set_option maxHeartbeats 1600000 in
theorem ownI (n : Int) (w : World) : Calls Tryd.prog 69 #[.int .i64 n] w fun e w' => e = .returned (.int .i64 n) ∧ Below w.heap.size w w' := by
  have t1 : ∀ (p : Option Addr) w, (Instr.typeAssert (.iface 139 (.pointer p)) 20 130 true).run Tryd.prog w = .ok (.tuple #[.pointer none, .bool false]) w := fun _ _ => by kernel_rfl
  have t2 : ∀ (p : Option Addr) w, (Instr.typeAssert (.iface 139 (.pointer p)) 20 131 true).run Tryd.prog w = .ok (.tuple #[.pointer none, .bool false]) w := fun _ _ => by kernel_rfl
  have t3 : ∀ (p : Option Addr) w, (Instr.typeAssert (.iface 139 (.pointer p)) 20 133 true).run Tryd.prog w = .ok (.tuple #[.pointer none, .bool false]) w := fun _ _ => by kernel_rfl
  go_enter Tryd.func69, Tryd.ntmps69
  go_wp2_with (simp only [t1, t2, t3, Result.andThen_ok])
  go_ret
  exact ⟨rfl, below1 _ _⟩
theorem law9I : Go.Maps.Keyed Tryd.prog 3 := Go.Maps.int_keyed Tryd.underlying3
/-- What a map holds that numbers texts. -/
def ReadsI (D : DataW Unit) (l : List Int) : Prop :=
  ∀ k : Int, (k ∈ l → Maps.has D (.int .i64 k) = true) ∧ (k ∉ l → Maps.has D (.int .i64 k) = false) ∧ ∀ (j : Nat), l[j]? = some k → ∀ z, D.atKey (.int .i64 k) z = .lit (.int .i64 j)
/-- A dictionary of texts l lies at block g; its blocks are F. -/
def DicI (w : World) (g : Nat) (l : List Int) (F : Nat → Prop) : Prop :=
  ∃ T, T ≠ 3 ∧ ∃ bm v D, w.heap[g]? = some (.cells #[.map (some bm), v] T) ∧ w.ownsMap Tryd.prog 3 (plainElem Tryd.prog 3) bm l.length D ∧ ReadsI D l ∧ w.ownsRow 0 3 1 v l.length (l.map (fun n : Int => Value.int .i64 n)) ∧ l.Nodup ∧ (∀ s ∈ l, (Lit.int .i64 s).wf = true) ∧ ∀ i, F i ↔ i = g ∨ i = bm ∨ v.ownBlock = some i
theorem DicI.lt {w : World} {g : Nat} {l : List Int} {F : Nat → Prop} (h : DicI w g l F) {i : Nat} (hi : F i) : i < w.heap.size := by
  obtain ⟨T, hT, bm, v, D, h1, h2, h3, h4, h5, h6, h7⟩ := h
  rcases (h7 i).1 hi with rfl | rfl | e
  · exact lt_of_heap h1
  · exact h2.lt
  · exact row_lt h4 e
theorem DicI.keep {w w' : World} {g : Nat} {l : List Int} {F : Nat → Prop} (h : DicI w g l F) (k : ∀ i, F i → w'.heap[i]? = w.heap[i]?) : DicI w' g l F := by
  obtain ⟨T, hT, bm, v, D, h1, h2, h3, h4, h5, h6, h7⟩ := h
  exact ⟨T, hT, bm, v, D, (k g ((h7 g).2 (.inl rfl))).trans h1, map_keep h2 (k bm ((h7 bm).2 (.inr (.inl rfl)))), h3, row_keep h4 fun i hi => k i ((h7 i).2 (.inr (.inr hi))), h5, h6, h7⟩
theorem DicI.below {w w' : World} {g : Nat} {l : List Int} {F : Nat → Prop} (h : DicI w g l F) (k : Below w.heap.size w w') : DicI w' g l F := h.keep fun i hi => k.block i (h.lt hi)
theorem DicI.ch {w w' : World} {g : Nat} {l : List Int} {F G : Nat → Prop} (h : DicI w g l F) (k : Ch G w w') (d : ∀ i, F i → ¬ G i) : DicI w' g l F := h.keep fun i hi => k.block i (h.lt hi) (d i hi)

set_option maxRecDepth 20000 in
set_option maxHeartbeats 1600000 in
theorem newNumAtI (w : World) : Calls Tryd.prog 51 #[] w fun e w' => e = .returned (.agg #[.map (some (w.heap.size + 1)), .slice none 0 0]) ∧ Below w.heap.size w w' ∧ w'.heap[w.heap.size + 1]? = some (.map #[] 0) := by
  have hmm := @run_makeMap Tryd.prog
  go_enter Tryd.func51, Tryd.ntmps51
  go_wp2_with fail
  refine bodyPost_ret (v := .agg #[.map (some (w.heap.size + 1)), .slice none 0 0]) (results_cell_row (p := 0) (ty := 92) Tryd.results51 _ _ w.heap.size 92 #[.map (some (w.heap.size + 1)), .slice none 0 0] (0, 0) _ rfl ?_ Tryd.underlying92 rfl info92) rfl ⟨rfl, ?_, ?_⟩
  · exact heap_old _ (heap_new _ _ rfl)
  · exact below2 _ _ _
  · exact heap_new _ _ (by simp)
set_option maxRecDepth 20000 in
set_option maxHeartbeats 1600000 in
theorem countAtI (w : World) (g : Nat) (l : List Int) (F : Nat → Prop) (h : DicI w g l F) :
    Calls Tryd.prog 57 #[.pointer (some ⟨g, 0, none⟩)] w fun e w' => e = .returned (.int .i64 l.length) ∧ w = w' := by
  obtain ⟨T, hT, bm, v, D, h1, h2, h3, h4, h5, h6, h7⟩ := h
  obtain ⟨p, cap, rfl⟩ := row_slice h4
  obtain ⟨c0, c1, f1⟩ := Dic.d1 h1
  clear h3 h6 h7
  go_enter Tryd.func57, Tryd.ntmps57
  go_wp2_with fail
  go_ret
  exact ⟨rfl, rfl⟩
/-- A dictionary with nothing in it. -/
theorem dic_newI {w : World} {g bm T : Nat} (hT : T ≠ 3) (h1 : w.heap[g]? = some (.cells #[.map (some bm), .slice none 0 0] T)) (h2 : w.heap[bm]? = some (.map #[] 0)) : DicI w g [] fun i => i = g ∨ i = bm := by
  refine ⟨T, hT, bm, .slice none 0 0, .map [], h1, ⟨#[], 0, h2, ?_⟩, ?_, ?_, List.nodup_nil, by simp, fun i => by simp [Value.ownBlock]⟩
  · obtain ⟨es, clock, e, r⟩ := World.ownsMap_made w Tryd.prog 3 (plainElem (H := Unit) Tryd.prog 3)
    have e2 : (w.alloc (.map #[] 0)).heap[w.heap.size]? = some (.map #[] 0) := heap_new _ _ rfl
    rw [e2] at e
    cases e
    exact r
  · intro k
    exact ⟨by simp, fun _ => rfl, by simp⟩
  · exact World.ownsRow_nil _ _ _ _
set_option maxRecDepth 20000 in
set_option maxHeartbeats 1600000 in
theorem newAtI (w : World) : Calls Tryd.prog 14 #[] w fun e w' => ∃ g F, e = .returned (.pointer (some ⟨g, 0, none⟩)) ∧ Below w.heap.size w w' ∧ DicI w' g [] F ∧ ∀ i, F i → w.heap.size ≤ i := by
  go_enter Tryd.func14, Tryd.ntmps14
  go_wp2_with (go_at_call 51; (with_reducible refine (newNumAtI _).mono ?_); rintro e w1 ⟨rfl, hb, hm⟩)
  go_ret
  have z1 := lt_of_heap hm
  exact ⟨_, _, rfl, hb.alloc hb.size _, dic_newI (by decide) (heap_new _ _ rfl) (heap_old _ hm), by rintro i (rfl | rfl) <;> omega⟩
set_option maxRecDepth 20000 in
set_option maxHeartbeats 1600000 in
theorem LenAtI (w : World) (g : Nat) (l : List Int) (F : Nat → Prop) (h : DicI w g l F) :
    Calls Tryd.prog 21 #[.pointer (some ⟨g, 0, none⟩)] w fun e w' => e = .returned (.int .i64 l.length) ∧ w = w' := by
  go_enter Tryd.func21, Tryd.ntmps21
  go_wp2_with (go_at_call 57; (with_reducible refine (countAtI w g l F h).mono ?_); rintro e w1 ⟨rfl, rfl⟩)
  go_ret
  exact ⟨rfl, rfl⟩
set_option maxRecDepth 20000 in
set_option maxHeartbeats 1600000 in
theorem keyYesI (w : World) (g : Nat) (l : List Int) (F : Nat → Prop) (h : DicI w g l F) (j : Nat) (k : Int) (hk : l[j]? = some k) (hn : l.length ≤ maxLen) :
    Calls Tryd.prog 55 #[.pointer (some ⟨g, 0, none⟩), .int .i64 j] w fun e w' => e = .returned (.tuple #[.int .i64 k, .bool true]) ∧ Below w.heap.size w w' := by
  obtain ⟨T, hT, bm, v, D, h1, h2, h3, h4, h5, h6, h7⟩ := h
  have hj : j < l.length := (List.getElem?_eq_some_iff.1 hk).1
  obtain ⟨r, cap, rfl, hcap, hcell⟩ := row_cell h4 j hj
  have hcell' : w.cell? ⟨r, j, none⟩ = some (.int .i64 k) := by rw [hcell]; simp [hk]
  have s1 := h6 k (List.mem_of_getElem? hk)
  obtain ⟨c0, c1, f1⟩ := Dic.d1 h1
  clear h3 h6 h7 hk hcell
  unfold maxLen at hn
  go_enter Tryd.func55, Tryd.ntmps55
  go_wp2_with (go_at_call 69; (with_reducible refine (ownI k _).mono ?_); rintro e w1 ⟨rfl, hb⟩)
  go_ret2
  exact ⟨rfl, hb⟩
set_option maxRecDepth 20000 in
set_option maxHeartbeats 1600000 in
theorem numberYesI (w : World) (g : Nat) (l : List Int) (F : Nat → Prop) (h : DicI w g l F) (k : Int) (j : Nat) (hk : l[j]? = some k) (hs : (Lit.int .i64 k).wf = true) :
    Calls Tryd.prog 53 #[.pointer (some ⟨g, 0, none⟩), .int .i64 k] w fun e w' => e = .returned (.int .i64 j) ∧ w = w' := by
  obtain ⟨T, hT, bm, v, D, h1, h2, h3, h4, h5, h6, h7⟩ := h
  obtain ⟨c0, c1, f1⟩ := Dic.d1 h1
  have hkey := Go.Maps.keyOf_int_mk Tryd.underlying3 hs
  have HA := Lib.hid ((h3 k).2.2 j hk (.lit (.int .i64 0)))
  have HH := Lib.hid ((h3 k).1 (List.mem_of_getElem? hk))
  clear h3 h6 h7 hk
  go_enter Tryd.func53, Tryd.ntmps53
  go_wp2_with (at_lookup; refine wpList_lookup_own_ok_int _ rfl _ _ 90 rfl 3 3 .i64 law9I Tryd.underlying90 Tryd.underlying3 (zeroI _) bm _ D rfl h2 _ _ rfl hkey ?_; intro c hat2 _; obtain rfl : c = j := (by simpa using hat2.symm.trans HA.out); rw [HH.out]; clear hat2)
  go_ret
  exact ⟨rfl, rfl⟩
theorem reads_snocI {D : DataW Unit} {l : List Int} (h : ReadsI D l) (hD : Maps.IsMap D) (k : Int) (hk : k ∉ l) : ReadsI (D.put (.int .i64 k) (.lit (.int .i64 l.length))) (l ++ [k]) := by
  have inj : ∀ a b : Int, (Lit.int .i64 a) = .int .i64 b → a = b := fun a b e => by injection e
  have hkey : WideAt.IsKeyLit (.int .i64 k) := trivial
  intro q
  by_cases e : q = k
  · subst e
    refine ⟨fun _ => Maps.has_put_same hD hkey _, fun h => absurd (by simp) h, fun j hj z => ?_⟩
    have : j = l.length := by
      by_cases hlt : j < l.length
      · rw [List.getElem?_append_left hlt] at hj
        exact absurd (List.mem_of_getElem? hj) hk
      · have h2 := (List.getElem?_eq_some_iff.1 hj).1
        simp at h2; omega
    subst this
    exact Maps.atKey_put_same hD hkey _ _
  · have ne : (Lit.int .i64 q) ≠ .int .i64 k := fun h => e (inj _ _ h)
    refine ⟨fun hm => ?_, fun hm => ?_, fun j hj z => ?_⟩
    · rw [Maps.has_put_other ne]
      exact (h q).1 (by simpa [e] using hm)
    · rw [Maps.has_put_other ne]
      exact (h q).2.1 (fun x => hm (by simp [x]))
    · rw [Maps.atKey_put_other ne]
      refine (h q).2.2 j ?_ z
      by_cases hlt : j < l.length
      · rwa [List.getElem?_append_left hlt] at hj
      · have h2 := (List.getElem?_eq_some_iff.1 hj).1
        have : j = l.length := by simp at h2; omega
        subst this
        simp at hj
        exact absurd hj.symm e
set_option maxRecDepth 20000 in
set_option maxHeartbeats 1600000 in
theorem numberNoI (w : World) (g : Nat) (l : List Int) (F : Nat → Prop) (h : DicI w g l F) (k : Int) (hk : k ∉ l) (hs : (Lit.int .i64 k).wf = true) (hn : l.length ≤ 1048576) :
    Calls Tryd.prog 53 #[.pointer (some ⟨g, 0, none⟩), .int .i64 k] w fun e w' => ∃ F', e = .returned (.int .i64 l.length) ∧ DicI w' g (l ++ [k]) F' ∧ Turn F F' w w' := by
  obtain ⟨i0, hi, hz0, hz1, hz2⟩ := info_parts info3i
  obtain ⟨T, hT, bm, v, D, h1, h2, h3, h4, h5, h6, h7⟩ := h
  obtain ⟨p, cap, rfl⟩ := row_slice h4
  obtain ⟨c0, c1, f1⟩ := Dic.d1 h1
  have hkey := Go.Maps.keyOf_int_mk Tryd.underlying3 hs
  have HH := Lib.hid ((h3 k).2.1 hk)
  have hS := reads_snocI h3 h2.isMap k hk
  have hwf : (Lit.int .i64 (l.length : Int)).wf = true := WalkArith.wf_i64 (by omega)
  have hbg : bm ≠ g := by
    obtain ⟨es, cl, e⟩ := map_block h2
    intro q; subst q; rw [h1] at e; cases e
  have hlt := h2.lt
  have hgt := lt_of_heap h1
  clear h3
  go_enter Tryd.func53, Tryd.ntmps53
  go_wp2_with (first
    | (at_lookup; refine wpList_lookup_own_ok_int _ rfl _ _ 90 rfl 3 3 .i64 law9I Tryd.underlying90 Tryd.underlying3 (zeroI _) bm _ D rfl h2 _ _ rfl hkey ?_; intro c hat2 _; clear hat2; rw [HH.out])
    | (go_at_call 69; (with_reducible refine (ownI k _).mono ?_); rintro e w1 ⟨rfl, hb⟩
       have d1 := (hb.block g hgt).trans h1
       have d2 := map_keep h2 (hb.block bm hlt)
       have d4 := row_keep h4 fun i hi => hb.block i (row_lt h4 hi)
       have ch1 : Ch F w w1 := Ch.of_below hb
       obtain ⟨e0, e1, e2⟩ := Dic.d1 d1
       have zl1 := hb.size
       clear c0 c1 f1 hb)
    | (at_mapUpdate; (refine wpList_mapUpdate_own _ rfl _ _ _ 90 rfl 3 3 law9I Tryd.underlying90 _ bm l.length _ rfl d2 (by unfold maxLen; omega) _ _ _ rfl rfl hkey _ [] (plainElem_int Tryd.underlying3 hwf) ?_); intro w2 d2' hg2
       have ch2 : Ch F w w2 := ch1.trans (Ch.of_grown hg2) (fun i _ q => (h7 i).2 (.inr (.inl (Option.some.inj q).symm)))
       have k1 := (hg2.block g (lt_of_heap d1) (fun q => hbg (Option.some.inj q).symm)).trans d1
       have k4 := row_keep d4 fun i hi => hg2.block i (row_lt d4 hi) (fun q => by obtain ⟨es, cl, e⟩ := map_block d2; cases q; exact row_notMap d4 e hi)
       obtain ⟨m0, m1, m2⟩ := Dic.d1 k1
       have zl2 := hg2.size
       clear d1 d2 d4 e0 e1 e2 ch1 hg2)
    | (at_builtin; refine wpList_append_own_at _ rfl _ _ 23 rfl 0 3 i0 (.int .i64 0) 1 8 Tryd.underlying23 hi hz0 hz1 hz2 rfl (by decide) _ _ _ rfl (k4.alloc _) ⟨w2.heap.size, 0, none⟩ 1 1 [.int .i64 k] rfl rfl (cell_one_new _ _ _) ?_ ?_ ?_ ?_ ?_; (intro u hu; simp at hu; subst hu; rfl); (unfold maxLen; omega); omega; simp; intro v' w3 hr hg3 _ hat
       obtain ⟨p', cap', rfl⟩ := row_slice hr
       have k3 := (hg3.block g (by simp; have := lt_of_heap k1; omega) (fun q => row_not k4 k1 hT q.symm)).trans (heap_old _ k1)
       obtain ⟨q0, q1, q2⟩ := Dic.d1 k3
       have zl3 := hg3.size
       clear m0 m1 m2))
  go_ret
  have d3 : w3.ownsMap Tryd.prog 3 (plainElem Tryd.prog 3) bm (l.length + 1) (D.put (.int .i64 k) (.lit (.int .i64 l.length))) :=
    map_keep (d2'.alloc _) (hg3.block bm (by simp; have := d2'.lt; omega) (fun q => by obtain ⟨es, cl, e⟩ := map_block d2'; exact row_notMap k4 e q.symm))
  have hvg : (Value.slice p' (l.length + 1) cap').ownBlock ≠ some g := row_not hr k3 hT
  have hF : ∀ i, i < w.heap.size → (Value.slice p l.length cap).ownBlock = some i → F i := fun i _ q => (h7 i).2 (.inr (.inr q))
  have ch3 : Ch F w w3 := (ch2.alloc _).trans (Ch.of_grown hg3) hF
  refine ⟨fun i => i = g ∨ i = bm ∨ (Value.slice p' (l.length + 1) cap').ownBlock = some i, rfl, ⟨T, hT, bm, _, _, ?_, ?_, hS, ?_, ?_, ?_, fun i => Iff.rfl⟩, ⟨ch3.setCell (.inl ((h7 g).2 (.inl rfl))) _, ?_⟩⟩
  · exact heap_set k3 1 _
  · rw [List.length_append]
    exact d3.setCell hbg _
  · rw [List.length_append, List.map_append]
    exact row_keep hr fun i q => Below.heap_setCell _ _ _ _ (fun e => hvg (by rw [q]; exact congrArg some e))
  · exact List.nodup_append.2 ⟨h5, by simp, by rintro a ha b hb rfl; simp at hb; exact hk (hb ▸ ha)⟩
  · intro s hm
    rcases List.mem_append.1 hm with hm | hm
    · exact h6 s hm
    · obtain rfl : s = k := by simpa using hm
      exact hs
  · rintro i (rfl | rfl | q)
    · exact .inl ((h7 i).2 (.inl rfl))
    · exact .inl ((h7 i).2 (.inr (.inl rfl)))
    · rcases hat with e | e
      · exact .inl ((h7 i).2 (.inr (.inr (e.symm.trans q))))
      · rw [q] at e
        have : i = w2.heap.size + 1 := by simpa using e
        exact .inr (by omega)
set_option maxRecDepth 20000 in
set_option maxHeartbeats 1600000 in
theorem IDYesI (w : World) (g : Nat) (l : List Int) (F : Nat → Prop) (h : DicI w g l F) (k : Int) (j : Nat) (hk : l[j]? = some k) (hs : (Lit.int .i64 k).wf = true) :
    Calls Tryd.prog 16 #[.pointer (some ⟨g, 0, none⟩), .int .i64 k] w fun e w' => e = .returned (.int .i64 j) ∧ w = w' := by
  go_enter Tryd.func16, Tryd.ntmps16
  go_wp2_with (go_at_call 53; (with_reducible refine (numberYesI w g l F h k j hk hs).mono ?_); rintro e w1 ⟨rfl, rfl⟩)
  go_ret
  exact ⟨rfl, rfl⟩
set_option maxRecDepth 20000 in
set_option maxHeartbeats 1600000 in
theorem IDNoI (w : World) (g : Nat) (l : List Int) (F : Nat → Prop) (h : DicI w g l F) (k : Int) (hk : k ∉ l) (hs : (Lit.int .i64 k).wf = true) (hn : l.length ≤ 1048576) :
    Calls Tryd.prog 16 #[.pointer (some ⟨g, 0, none⟩), .int .i64 k] w fun e w' => ∃ F', e = .returned (.int .i64 l.length) ∧ DicI w' g (l ++ [k]) F' ∧ Turn F F' w w' := by
  have hc := numberNoI w g l F h k hk hs hn
  clear hk
  go_enter Tryd.func16, Tryd.ntmps16
  go_wp2_with (go_at_call 53; (with_reducible refine hc.mono ?_); rintro e w1 ⟨F', rfl, hd, ht⟩)
  go_ret
  exact ⟨_, rfl, hd, ht⟩
set_option maxRecDepth 20000 in
set_option maxHeartbeats 1600000 in
theorem KeyYesI (w : World) (g : Nat) (l : List Int) (F : Nat → Prop) (h : DicI w g l F) (j : Nat) (k : Int) (hk : l[j]? = some k) (hn : l.length ≤ maxLen) :
    Calls Tryd.prog 19 #[.pointer (some ⟨g, 0, none⟩), .int .i64 j] w fun e w' => e = .returned (.tuple #[.int .i64 k, .bool true]) ∧ Below w.heap.size w w' := by
  go_enter Tryd.func19, Tryd.ntmps19
  go_wp2_with (go_at_call 55; (with_reducible refine (keyYesI w g l F h j k hk hn).mono ?_); rintro e w1 ⟨rfl, hb⟩)
  go_ret2
  exact ⟨rfl, hb⟩
end Go.Proofs.YtffbcccbhofbpaaDoor
