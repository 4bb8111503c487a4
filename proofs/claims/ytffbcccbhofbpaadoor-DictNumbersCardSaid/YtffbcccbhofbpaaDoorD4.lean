/- A dictionary of texts: the number of a key, old or new. -/
import Derived.Test.YtffbcccbhofbpaaDoorD3
namespace Go.Proofs.YtffbcccbhofbpaaDoor
open Go.RowKit

set_option maxRecDepth 20000 in
set_option maxHeartbeats 1600000 in
theorem numberYes (w : World) (g : Nat) (l : List ByteArray) (F : Nat → Prop) (h : Dic w g l F) (k : ByteArray) (j : Nat) (hk : l[j]? = some k) (hs : k.size ≤ maxLen) :
    Calls Tryd.prog 45 #[.pointer (some ⟨g, 0, none⟩), .string k] w fun e w' => e = .returned (.int .i64 j) ∧ w = w' := by
  obtain ⟨T, hT, bm, v, D, h1, h2, h3, h4, h5, h6, h7⟩ := h
  obtain ⟨c0, c1, f1⟩ := Dic.d1 h1
  have hkey := Go.WideMaps.keyOf_string_mk Tryd.underlying9 hs
  have HA := Lib.hid ((h3 k).2.2 j hk (.lit (.int .i64 0)))
  have HH := Lib.hid ((h3 k).1 (List.mem_of_getElem? hk))
  clear h3 h6 h7 hk
  go_enter Tryd.func45, Tryd.ntmps45
  go_wp2_with (at_lookup; refine wpList_lookup_own_ok_int _ rfl _ _ 77 rfl 9 3 .i64 law9 Tryd.underlying77 Tryd.underlying3 (zeroI _) bm _ D rfl h2 _ _ rfl hkey ?_; intro c hat2 _; obtain rfl : c = j := (by simpa using hat2.symm.trans HA.out); rw [HH.out]; clear hat2)
  go_ret
  exact ⟨rfl, rfl⟩
theorem reads_snoc {D : DataW Unit} {l : List ByteArray} (h : Reads D l) (hD : Maps.IsMap D) (k : ByteArray) (hk : k ∉ l) : Reads (D.put (.string k.data.toList) (.lit (.int .i64 l.length))) (l ++ [k]) := by
  have inj : ∀ a b : ByteArray, (Lit.string a.data.toList) = .string b.data.toList → a = b := fun a b e => by
    have : a.data.toList = b.data.toList := by injection e
    exact ByteArray.ext (Array.toList_inj.1 this)
  have hkey : WideAt.IsKeyLit (.string k.data.toList) := trivial
  intro q
  by_cases e : q = k
  · subst e
    refine ⟨fun _ => Maps.has_put_same hD hkey _, fun h => absurd (by simp) h, fun j hj z => ?_⟩
    have : j = l.length := by
      by_cases hlt : j < l.length
      · rw [List.getElem?_append_left hlt] at hj
        exact absurd (List.mem_of_getElem? hj) hk
      · have h2 := (List.getElem?_eq_some_iff.1 hj).1
        simp at h2; omega
    subst this
    exact Maps.atKey_put_same hD hkey _ _
  · have ne : (Lit.string q.data.toList) ≠ .string k.data.toList := fun h => e (inj _ _ h)
    refine ⟨fun hm => ?_, fun hm => ?_, fun j hj z => ?_⟩
    · rw [Maps.has_put_other ne]
      exact (h q).1 (by simpa [e] using hm)
    · rw [Maps.has_put_other ne]
      exact (h q).2.1 (fun x => hm (by simp [x]))
    · rw [Maps.atKey_put_other ne]
      refine (h q).2.2 j ?_ z
      by_cases hlt : j < l.length
      · rwa [List.getElem?_append_left hlt] at hj
      · have h2 := (List.getElem?_eq_some_iff.1 hj).1
        have : j = l.length := by simp at h2; omega
        subst this
        simp at hj
        exact absurd hj.symm e
theorem info9b : (Tryd.prog.info? 9).map (fun i => (i.zero, i.size, i.bytes)) = some (some (.string ⟨#[]⟩), 1, 16) := by kernel_rfl
set_option maxRecDepth 20000 in
set_option maxHeartbeats 1600000 in
theorem numberNo (w : World) (g : Nat) (l : List ByteArray) (F : Nat → Prop) (h : Dic w g l F) (k : ByteArray) (hk : k ∉ l) (hs : k.size ≤ maxLen) (hs2 : k.size ≤ 281474976710656) (hn : l.length ≤ 1048576) :
    Calls Tryd.prog 45 #[.pointer (some ⟨g, 0, none⟩), .string k] w fun e w' => ∃ F', e = .returned (.int .i64 l.length) ∧ Dic w' g (l ++ [k]) F' ∧ Turn F F' w w' := by
  obtain ⟨i0, hi, hz0, hz1, hz2⟩ := info_parts info9b
  obtain ⟨T, hT, bm, v, D, h1, h2, h3, h4, h5, h6, h7⟩ := h
  obtain ⟨p, cap, rfl⟩ := row_slice h4
  obtain ⟨c0, c1, f1⟩ := Dic.d1 h1
  have hkey := Go.WideMaps.keyOf_string_mk Tryd.underlying9 hs
  have HH := Lib.hid ((h3 k).2.1 hk)
  have hS := reads_snoc h3 h2.isMap k hk
  have hwf : (Lit.int .i64 (l.length : Int)).wf = true := WalkArith.wf_i64 (by omega)
  have hbg : bm ≠ g := by
    obtain ⟨es, cl, e⟩ := map_block h2
    intro q; subst q; rw [h1] at e; cases e
  have hlt := h2.lt
  have hgt := lt_of_heap h1
  clear h3
  go_enter Tryd.func45, Tryd.ntmps45
  go_wp2_with (first
    | (at_lookup; refine wpList_lookup_own_ok_int _ rfl _ _ 77 rfl 9 3 .i64 law9 Tryd.underlying77 Tryd.underlying3 (zeroI _) bm _ D rfl h2 _ _ rfl hkey ?_; intro c hat2 _; clear hat2; rw [HH.out])
    | (go_at_call 64; (with_reducible refine (ownStr k _ hs hs2).mono ?_); rintro e w1 ⟨rfl, hb⟩
       have d1 := (hb.block g hgt).trans h1
       have d2 := map_keep h2 (hb.block bm hlt)
       have d4 := row_keep h4 fun i hi => hb.block i (row_lt h4 hi)
       have ch1 : Ch F w w1 := Ch.of_below hb
       obtain ⟨e0, e1, e2⟩ := Dic.d1 d1
       have zl1 := hb.size
       clear c0 c1 f1 hb)
    | (at_mapUpdate; (refine wpList_mapUpdate_own _ rfl _ _ _ 77 rfl 9 3 law9 Tryd.underlying77 _ bm l.length _ rfl d2 (by unfold maxLen; omega) _ _ _ rfl rfl hkey _ [] (plainElem_int Tryd.underlying3 hwf) ?_); intro w2 d2' hg2
       have ch2 : Ch F w w2 := ch1.trans (Ch.of_grown hg2) (fun i _ q => (h7 i).2 (.inr (.inl (Option.some.inj q).symm)))
       have k1 := (hg2.block g (lt_of_heap d1) (fun q => hbg (Option.some.inj q).symm)).trans d1
       have k4 := row_keep d4 fun i hi => hg2.block i (row_lt d4 hi) (fun q => by obtain ⟨es, cl, e⟩ := map_block d2; cases q; exact row_notMap d4 e hi)
       obtain ⟨m0, m1, m2⟩ := Dic.d1 k1
       have zl2 := hg2.size
       clear d1 d2 d4 e0 e1 e2 ch1 hg2)
    | (at_builtin; refine wpList_append_own_at _ rfl _ _ 22 rfl 0 9 i0 (.string ⟨#[]⟩) 1 16 Tryd.underlying22 hi hz0 hz1 hz2 rfl (by decide) _ _ _ rfl (k4.alloc _) ⟨w2.heap.size, 0, none⟩ 1 1 [.string k] rfl rfl (cell_one_new _ _ _) ?_ ?_ ?_ ?_ ?_; (intro u hu; simp at hu; subst hu; rfl); (unfold maxLen; omega); omega; simp; intro v' w3 hr hg3 _ hat
       obtain ⟨p', cap', rfl⟩ := row_slice hr
       have k3 := (hg3.block g (by simp; have := lt_of_heap k1; omega) (fun q => row_not k4 k1 hT q.symm)).trans (heap_old _ k1)
       obtain ⟨q0, q1, q2⟩ := Dic.d1 k3
       have zl3 := hg3.size
       clear m0 m1 m2))
  go_ret
  have d3 : w3.ownsMap Tryd.prog 9 (plainElem Tryd.prog 3) bm (l.length + 1) (D.put (.string k.data.toList) (.lit (.int .i64 l.length))) :=
    map_keep (d2'.alloc _) (hg3.block bm (by simp; have := d2'.lt; omega) (fun q => by obtain ⟨es, cl, e⟩ := map_block d2'; exact row_notMap k4 e q.symm))
  have hvg : (Value.slice p' (l.length + 1) cap').ownBlock ≠ some g := row_not hr k3 hT
  have hF : ∀ i, i < w.heap.size → (Value.slice p l.length cap).ownBlock = some i → F i := fun i _ q => (h7 i).2 (.inr (.inr q))
  have ch3 : Ch F w w3 := (ch2.alloc _).trans (Ch.of_grown hg3) hF
  refine ⟨fun i => i = g ∨ i = bm ∨ (Value.slice p' (l.length + 1) cap').ownBlock = some i, rfl, ⟨T, hT, bm, _, _, ?_, ?_, hS, ?_, ?_, ?_, fun i => Iff.rfl⟩, ⟨ch3.setCell (.inl ((h7 g).2 (.inl rfl))) _, ?_⟩⟩
  · exact heap_set k3 1 _
  · rw [List.length_append]
    exact d3.setCell hbg _
  · rw [List.length_append, List.map_append]
    exact row_keep hr fun i q => Below.heap_setCell _ _ _ _ (fun e => hvg (by rw [q]; exact congrArg some e))
  · exact List.nodup_append.2 ⟨h5, by simp, by rintro a ha b hb rfl; simp at hb; exact hk (hb ▸ ha)⟩
  · intro s hm
    rcases List.mem_append.1 hm with hm | hm
    · exact h6 s hm
    · obtain rfl : s = k := by simpa using hm
      exact ⟨hs, hs2⟩
  · rintro i (rfl | rfl | q)
    · exact .inl ((h7 i).2 (.inl rfl))
    · exact .inl ((h7 i).2 (.inr (.inl rfl)))
    · rcases hat with e | e
      · exact .inl ((h7 i).2 (.inr (.inr (e.symm.trans q))))
      · rw [q] at e
        have : i = w2.heap.size + 1 := by simpa using e
        exact .inr (by omega)
set_option maxRecDepth 20000 in
set_option maxHeartbeats 1600000 in
theorem IDYes (w : World) (g : Nat) (l : List ByteArray) (F : Nat → Prop) (h : Dic w g l F) (k : ByteArray) (j : Nat) (hk : l[j]? = some k) (hs : k.size ≤ maxLen) :
    Calls Tryd.prog 10 #[.pointer (some ⟨g, 0, none⟩), .string k] w fun e w' => e = .returned (.int .i64 j) ∧ w = w' := by
  go_enter Tryd.func10, Tryd.ntmps10
  go_wp2_with (go_at_call 45; (with_reducible refine (numberYes w g l F h k j hk hs).mono ?_); rintro e w1 ⟨rfl, rfl⟩)
  go_ret
  exact ⟨rfl, rfl⟩
set_option maxRecDepth 20000 in
set_option maxHeartbeats 1600000 in
theorem IDNo (w : World) (g : Nat) (l : List ByteArray) (F : Nat → Prop) (h : Dic w g l F) (k : ByteArray) (hk : k ∉ l) (hs : k.size ≤ maxLen) (hs2 : k.size ≤ 281474976710656) (hn : l.length ≤ 1048576) :
    Calls Tryd.prog 10 #[.pointer (some ⟨g, 0, none⟩), .string k] w fun e w' => ∃ F', e = .returned (.int .i64 l.length) ∧ Dic w' g (l ++ [k]) F' ∧ Turn F F' w w' := by
  have hc := numberNo w g l F h k hk hs hs2 hn
  clear hk
  go_enter Tryd.func10, Tryd.ntmps10
  go_wp2_with (go_at_call 45; (with_reducible refine hc.mono ?_); rintro e w1 ⟨F', rfl, hd, ht⟩)
  go_ret
  exact ⟨_, rfl, hd, ht⟩
set_option maxRecDepth 20000 in
set_option maxHeartbeats 1600000 in
theorem KeyYes (w : World) (g : Nat) (l : List ByteArray) (F : Nat → Prop) (h : Dic w g l F) (j : Nat) (k : ByteArray) (hk : l[j]? = some k) (hn : l.length ≤ maxLen) :
    Calls Tryd.prog 12 #[.pointer (some ⟨g, 0, none⟩), .int .i64 j] w fun e w' => e = .returned (.tuple #[.string k, .bool true]) ∧ Below w.heap.size w w' := by
  go_enter Tryd.func12, Tryd.ntmps12
  go_wp2_with (go_at_call 47; (with_reducible refine (keyYes w g l F h j k hk hn).mono ?_); rintro e w1 ⟨rfl, hb⟩)
  go_ret2
  exact ⟨rfl, hb⟩
set_option maxRecDepth 20000 in
set_option maxHeartbeats 1600000 in
theorem KeyNo (w : World) (g : Nat) (l : List ByteArray) (F : Nat → Prop) (h : Dic w g l F) (j : Int) (hj : j < 0 ∨ (l.length : Int) ≤ j) :
    Calls Tryd.prog 12 #[.pointer (some ⟨g, 0, none⟩), .int .i64 j] w fun e w' => e = .returned (.tuple #[.string ⟨#[]⟩, .bool false]) ∧ Below w.heap.size w w' := by
  have hc := keyNo w g l F h j hj
  clear hj
  go_enter Tryd.func12, Tryd.ntmps12
  go_wp2_with (go_at_call 47; (with_reducible refine hc.mono ?_); rintro e w1 ⟨rfl, hb⟩)
  go_ret2
  exact ⟨rfl, hb⟩
end Go.Proofs.YtffbcccbhofbpaaDoor
