/- A dictionary of pairs: a key that has its number. -/
import Derived.Test.YtffbcccbhofbpaaDoorI3
import Derived.Deep.LoopGhost
import Derived.Deep.Cut
import Derived.Deep.CutBlock
import Derived.Deep.DeepCutAuto
import Derived.Deep.RegionWith
import Derived.Deep.QuietTactic
import Derived.BigQuiet
namespace Go.Proofs.YtffbcccbhofbpaaDoor
open Go.RowKit

theorem lookP {w : World} {bm n : Nat} {D : DataW Unit} (h2 : w.ownsMap Tryd.prog 41 (plainElem Tryd.prog 3) bm n D) {k : Int} (hs : (Lit.int .i64 k).wf = true) :
    ∃ c : Int, (Instr.lookup 96 (.map (some bm)) (.agg #[.int .i64 k, .int .i64 7]) true).run Tryd.prog w = .ok (.tuple #[.int .i64 c, .bool (Maps.has D (kP k))]) w ∧ D.atKey (kP k) (.lit (.int .i64 0)) = .lit (.int .i64 c) := by
  obtain ⟨v, ps, hrun, hv⟩ := h2.look_ok law9P Tryd.underlying96 (zeroI w) (zd := .lit (.int .i64 0)) (zp := []) (plainElem_int Tryd.underlying3 (by decide)) (keyP k hs)
  obtain ⟨c, rfl, hc, _⟩ := plainElem_int_inv Tryd.underlying3 hv
  exact ⟨c, hrun, congrArg Prod.fst hc⟩
set_option maxRecDepth 20000 in
set_option maxHeartbeats 1600000 in
theorem numberYesP (w : World) (g : Nat) (l : List Int) (F : Nat → Prop) (h : DicP w g l F) (k : Int) (j : Nat) (hk : l[j]? = some k) (hs : (Lit.int .i64 k).wf = true) :
    Calls Tryd.prog 54 #[.pointer (some ⟨g, 0, none⟩), .agg #[.int .i64 k, .int .i64 7]] w fun e w' => e = .returned (.int .i64 j) ∧ Below w.heap.size w w' := by
  obtain ⟨T, hT, bm, v, D, h1, h2, h3, h4, h5, h6, h7⟩ := h
  obtain ⟨W0, hW0⟩ : ∃ W0, W0 = w.alloc (.cells #[.int .i64 k, .int .i64 7] 41) := ⟨_, rfl⟩
  have hb0 : Below w.heap.size w W0 := by rw [hW0]; exact below1 _ _
  have hx : W0.heap[w.heap.size]? = some (.cells #[.int .i64 k, .int .i64 7] 41) := by rw [hW0]; exact heap_new _ _ rfl
  have x0 : W0.cell? ⟨w.heap.size, 0, none⟩ = some (.int .i64 k) := cell_of hx 0 rfl
  have x1 : W0.cell? ⟨w.heap.size, 1, none⟩ = some (.int .i64 7) := cell_of hx 1 rfl
  replace h1 := (hb0.block g (lt_of_heap h1)).trans h1
  obtain ⟨c0, c1, f1⟩ := Dic.d1 h1
  obtain ⟨c, hrun, hat⟩ := lookP (w := W0.drew) (map_keep h2 (hb0.block bm h2.lt)) hs
  rw [(h3 k hs).2.2 j hk (.lit (.int .i64 0))] at hat
  obtain rfl : (j : Int) = c := by simpa using hat
  rw [(h3 k hs).1 (List.mem_of_getElem? hk)] at hrun
  have H0 := Lib.hid hW0
  clear h3 h6 h7 hk hat hW0
  go_enter Tryd.func54, Tryd.ntmps54
  go_wp2_with fail
  rw [← H0.out]
  go_region_with fail
  all_goals
    go_wp2_with fail
    go_ret
    exact ⟨rfl, hb0.drew⟩
theorem reads_snocP {D : DataW Unit} {l : List Int} (h : ReadsP D l) (hD : Maps.IsMap D) (k : Int) (hk : k ∉ l) (hs : (Lit.int .i64 k).wf = true) : ReadsP (D.put (kP k) (.lit (.int .i64 l.length))) (l ++ [k]) := by
  have hkey : WideAt.IsKeyLit (kP k) := trivial
  intro q hq
  by_cases e : q = k
  · subst e
    refine ⟨fun _ => Maps.has_put_same hD hkey _, fun h => absurd (by simp) h, fun j hj z => ?_⟩
    have : j = l.length := by
      by_cases hlt : j < l.length
      · rw [List.getElem?_append_left hlt] at hj
        exact absurd (List.mem_of_getElem? hj) hk
      · have h2 := (List.getElem?_eq_some_iff.1 hj).1
        simp at h2; omega
    subst this
    exact Maps.atKey_put_same hD hkey _ _
  · have ne : kP q ≠ kP k := fun h => e (kP_inj hq hs h)
    refine ⟨fun hm => ?_, fun hm => ?_, fun j hj z => ?_⟩
    · rw [Maps.has_put_other ne]
      exact (h q hq).1 (by simpa [e] using hm)
    · rw [Maps.has_put_other ne]
      exact (h q hq).2.1 (fun x => hm (by simp [x]))
    · rw [Maps.atKey_put_other ne]
      refine (h q hq).2.2 j ?_ z
      by_cases hlt : j < l.length
      · rwa [List.getElem?_append_left hlt] at hj
      · have h2 := (List.getElem?_eq_some_iff.1 hj).1
        have : j = l.length := by simp at h2; omega
        subst this
        simp at hj
        exact absurd hj.symm e
theorem updP {w : World} {bm n : Nat} {D : DataW Unit} (h2 : w.ownsMap Tryd.prog 41 (plainElem Tryd.prog 3) bm n D) (hn : n < maxLen) {k : Int} (hs : (Lit.int .i64 k).wf = true) {c : Int} (hc : (Lit.int .i64 c).wf = true) :
    ∃ w', (Instr.mapUpdate 96 (.map (some bm)) (.agg #[.int .i64 k, .int .i64 7]) (.int .i64 c)).run Tryd.prog w = .ok () w' ∧ w'.ownsMap Tryd.prog 41 (plainElem Tryd.prog 3) bm (n + 1) (D.put (kP k) (.lit (.int .i64 c))) ∧ w.grownBy w' (some bm) :=
  h2.update law9P Tryd.underlying96 hn (keyP k hs) (plainElem_int Tryd.underlying3 hc)
/-- Behind the look-up, the update and the append: the dictionary with a key more. -/
theorem shutP {w w2 w3 z : World} {g bm T : Nat} {l : List Int} {F : Nat → Prop} {p p' : Option Addr} {cap cap' : Nat} {D : DataW Unit} {k : Int} (hT : T ≠ 41)
    (h7 : ∀ i, F i ↔ i = g ∨ i = bm ∨ (Value.slice p l.length cap).ownBlock = some i) (ch2 : Ch F w w2) (k1 : w2.heap[g]? = some (.cells #[.map (some bm), .slice p l.length cap] T))
    (d2 : w2.ownsMap Tryd.prog 41 (plainElem Tryd.prog 3) bm (l.length + 1) D) (k4 : w2.ownsRow 0 41 2 (.slice p l.length cap) l.length (cellsP l)) (hz : Below w2.heap.size w2 z)
    (hr : w3.ownsRow 0 41 2 (.slice p' (l.length + 1) cap') (l.length + 1) (cellsP l ++ [.int .i64 k, .int .i64 7])) (hg3 : z.grownBy w3 (Value.slice p l.length cap).ownBlock)
    (hat : ∀ i, (Value.slice p' (l.length + 1) cap').ownBlock = some i → (Value.slice p l.length cap).ownBlock = some i ∨ z.heap.size ≤ i) (hS : ReadsP D (l ++ [k])) (h5 : l.Nodup) (hk : k ∉ l)
    (h6 : ∀ s ∈ l, (Lit.int .i64 s).wf = true) (hs : (Lit.int .i64 k).wf = true) (hbg : bm ≠ g) (m : Nat) :
    ∃ F', DicP ((w3.setCell ⟨g, 1, none⟩ (.slice p' (l.length + 1) cap')).drewN m) g (l ++ [k]) F' ∧ Turn F F' w ((w3.setCell ⟨g, 1, none⟩ (.slice p' (l.length + 1) cap')).drewN m) := by
  have kz := (hz.block g (lt_of_heap k1)).trans k1
  have k3 := (hg3.block g (lt_of_heap kz) (fun q => row_not k4 k1 hT q.symm)).trans kz
  have zl := hz.size
  have cl := ch2.size
  have d3 : w3.ownsMap Tryd.prog 41 (plainElem Tryd.prog 3) bm (l.length + 1) D :=
    map_keep d2 ((hg3.block bm (by have := d2.lt; omega) (fun q => by obtain ⟨es, cl, e⟩ := map_block d2; exact row_notMap k4 e q.symm)).trans (hz.block bm d2.lt))
  have hvg : (Value.slice p' (l.length + 1) cap').ownBlock ≠ some g := row_not hr k3 hT
  have hF : ∀ i, i < w.heap.size → (Value.slice p l.length cap).ownBlock = some i → F i := fun i _ q => (h7 i).2 (.inr (.inr q))
  have ch3 : Ch F w w3 := (ch2.trans (Ch.of_below (F := F) hz) (fun _ _ g => g)).trans (Ch.of_grown hg3) hF
  refine ⟨fun i => i = g ∨ i = bm ∨ (Value.slice p' (l.length + 1) cap').ownBlock = some i, ⟨T, hT, bm, _, _, heap_set k3 1 _, ?_, hS, ?_, ?_, ?_, fun i => Iff.rfl⟩, ⟨(ch3.setCell (a := ⟨g, 1, none⟩) (.inl ((h7 g).2 (.inl rfl))) _).drewN m, ?_⟩⟩
  · rw [List.length_append]
    exact d3.setCell hbg _
  · rw [List.length_append, cellsP_snoc]
    exact row_keep hr fun i q => Below.heap_setCell _ _ _ _ (fun e => hvg (by rw [q]; exact congrArg some e))
  · exact List.nodup_append.2 ⟨h5, by simp, by rintro a ha b hb rfl; simp at hb; exact hk (hb ▸ ha)⟩
  · intro s hm
    rcases List.mem_append.1 hm with hm | hm
    · exact h6 s hm
    · obtain rfl : s = k := by simpa using hm
      exact hs
  · rintro i (rfl | rfl | q)
    · exact .inl ((h7 i).2 (.inl rfl))
    · exact .inl ((h7 i).2 (.inr (.inl rfl)))
    · rcases hat i q with e | e
      · exact .inl ((h7 i).2 (.inr (.inr e)))
      · exact .inr (by omega)
set_option maxRecDepth 20000 in
set_option maxHeartbeats 3200000 in
theorem numberNoP (w : World) (g : Nat) (l : List Int) (F : Nat → Prop) (h : DicP w g l F) (k : Int) (hk : k ∉ l) (hs : (Lit.int .i64 k).wf = true) (hn : l.length ≤ 1048576) :
    Calls Tryd.prog 54 #[.pointer (some ⟨g, 0, none⟩), .agg #[.int .i64 k, .int .i64 7]] w fun e w' => ∃ F', e = .returned (.int .i64 l.length) ∧ DicP w' g (l ++ [k]) F' ∧ Turn F F' w w' := by
  obtain ⟨i0, hi, hz0, hz1, hz2⟩ := info_parts info41i
  obtain ⟨T, hT, bm, v, D, h1, h2, h3, h4, h5, h6, h7⟩ := h
  obtain ⟨p, cap, rfl⟩ := row_slice h4
  obtain ⟨W0, hW0⟩ : ∃ W0, W0 = w.alloc (.cells #[.int .i64 k, .int .i64 7] 41) := ⟨_, rfl⟩
  have hb0 : Below w.heap.size w W0 := by rw [hW0]; exact below1 _ _
  have hx : W0.heap[w.heap.size]? = some (.cells #[.int .i64 k, .int .i64 7] 41) := by rw [hW0]; exact heap_new _ _ rfl
  have x0 : W0.cell? ⟨w.heap.size, 0, none⟩ = some (.int .i64 k) := cell_of hx 0 rfl
  have x1 : W0.cell? ⟨w.heap.size, 1, none⟩ = some (.int .i64 7) := cell_of hx 1 rfl
  have hgt := lt_of_heap h1
  have hlt := h2.lt
  replace h1 := (hb0.block g hgt).trans h1
  replace h2 := map_keep (w' := W0) h2 (hb0.block bm hlt)
  replace h4 := row_keep (w' := W0) h4 fun i q => hb0.block i (row_lt h4 q)
  obtain ⟨c0, c1, f1⟩ := Dic.d1 h1
  obtain ⟨c, hrun, hat⟩ := lookP (w := W0.drew) h2 hs
  rw [(h3 k hs).2.1 hk] at hrun
  have hS := reads_snocP h3 h2.isMap k hk hs
  have hwf : (Lit.int .i64 (l.length : Int)).wf = true := WalkArith.wf_i64 (by omega)
  have hbg : bm ≠ g := by
    obtain ⟨es, cl, e⟩ := map_block h2
    intro q; subst q; rw [h1] at e; cases e
  have H0 := Lib.hid hW0
  have HK := Lib.hid hk
  clear h3 hk hat hW0
  go_enter Tryd.func54, Tryd.ntmps54
  go_upto_region 1 with fail
  rw [← H0.out]
  go_cut [0, 5, 6] (fun s0 s5 s6 wx => s0 = .pointer (some ⟨g, 0, none⟩) ∧ s5 = .int .i64 c ∧ s6 = .bool false ∧ wx = W0.drew)
  case first =>
    go_region_with fail
    all_goals
      go_wp2_with fail
      go_meet
      case rel => exact ⟨rfl, rfl, rfl, rfl⟩
  case rest =>
    obtain ⟨rfl, rfl, rfl, rfl⟩ := hcut
    clear hrun
    go_wp2_with (go_at_call 70; refine (ownP k _).mono ?_; rintro e w1 ⟨rfl, hb1⟩)
    replace hb1 : Below W0.heap.size W0 w1 := ⟨hb1.os, hb1.tape, hb1.output, hb1.size, hb1.block⟩
    obtain ⟨W1, hW1⟩ : ∃ W1, W1 = w1.alloc (.cells #[.int .i64 k, .int .i64 7] 41) := ⟨_, rfl⟩
    have hbW : Below W0.heap.size W0 W1 := by rw [hW1]; exact hb1.alloc hb1.size _
    have ky : W1.heap[w1.heap.size]? = some (.cells #[.int .i64 k, .int .i64 7] 41) := by rw [hW1]; exact heap_new _ _ rfl
    rw [← hW1]
    have d1 := (hbW.block g (lt_of_heap h1)).trans h1
    have d2 := map_keep h2 (hbW.block bm h2.lt)
    have d4 := row_keep h4 fun i q => hbW.block i (row_lt h4 q)
    have ch1 : Ch F w W1 := Ch.of_below (below_any hb0 hbW hb0.size)
    have hbm1 : bm ≠ w1.heap.size := by have := h2.lt; have := hb1.size; omega
    have y0 : W1.cell? ⟨w1.heap.size, 0, none⟩ = some (.int .i64 k) := cell_of ky 0 rfl
    have y1 : W1.cell? ⟨w1.heap.size, 1, none⟩ = some (.int .i64 7) := cell_of ky 1 rfl
    obtain ⟨e0, e1, e2⟩ := Dic.d1 d1
    obtain ⟨w2, hup, d2', hg2⟩ := updP (w := W1.drew) d2 (by unfold maxLen; omega) hs hwf
    have ch2 : Ch F w w2 := (ch1.drewN 1).trans (Ch.of_grown hg2) (fun i _ q => (h7 i).2 (.inr (.inl (Option.some.inj q).symm)))
    have k1 := (hg2.block g (lt_of_heap d1) (fun q => hbg (Option.some.inj q).symm)).trans d1
    have k4 := row_keep (w' := w2) d4 fun i hi => hg2.block i (row_lt d4 hi) (fun q => by obtain ⟨es, cl, e⟩ := map_block d2; cases q; exact row_notMap d4 e hi)
    have kk := (hg2.block w1.heap.size (lt_of_heap ky) (fun q => hbm1 (Option.some.inj q).symm)).trans ky
    clear h1 h2 h4 hx x0 x1 c0 c1 f1 hW1
    go_cut [0, 5, 7] (fun s0 s5 s7 wx => s0 = .pointer (some ⟨g, 0, none⟩) ∧ s5 = .int .i64 l.length ∧ s7 = .pointer (some ⟨w1.heap.size, 0, none⟩) ∧ wx = w2)
    case first =>
      go_region_with fail
      all_goals
        go_wp2_with fail
        go_meet
        case rel => exact ⟨rfl, rfl, rfl, rfl⟩
    case rest =>
      obtain ⟨rfl, rfl, rfl, rfl⟩ := hcut
      clear hup y0 y1 e0 e1 e2 d1 d2 d4 ch1
      obtain ⟨q0, q1, q2⟩ := Dic.d1 k1
      have y0 : wc.cell? ⟨w1.heap.size, 0, none⟩ = some (.int .i64 k) := cell_of kk 0 rfl
      have y1 : wc.cell? ⟨w1.heap.size, 1, none⟩ = some (.int .i64 7) := cell_of kk 1 rfl
      have q6 : (wc.alloc (.cells #[.int .i64 k, .int .i64 7] 41)).cell? ⟨g, 1, none⟩ = some (.slice p l.length cap) := cell_of (heap_old _ k1) 1 rfl
      go_wp2_with fail
      go_region_law (first
        | (refine step_append_lies _ (by rfl) _ _ _ (by rfl) 0 41 i0 _ 2 16 Tryd.underlying97 hi hz0 hz1 hz2 rfl (by omega) (.slice p l.length cap) l.length (cellsP l) (by rfl) ((k4.alloc _).drew)
            ⟨wc.heap.size, 0, none⟩ 1 1 [.int .i64 k, .int .i64 7] (by rfl) (by rfl) (World.news_of_block (cs := #[.int .i64 k, .int .i64 7]) (t := 41) (fr := (0, 0)) (by exact heap_new wc _ rfl)) (by simp [Value.oneCell'])
            (by omega) (by unfold maxLen; omega) (by omega) (Nat.zero_le _) (wc.heap.size + 1) (by simp) ?_; intro gg cap' w3 hr hg3 hat hlt
           have k3 := (hg3.block g (by simp; have := lt_of_heap k1; omega) (fun q => row_not k4 k1 hT q.symm)).trans (heap_old _ k1)
           have q3 : w3.cell? ⟨g, 1, none⟩ = some (.slice p l.length cap) := cell_of k3 1 rfl
           have q4 : w3.frozen? ⟨g, 1, none⟩ = false := free_of k3 1))
      all_goals
        have hfin := shutP hT h7 ch2 k1 d2' k4 (below_drewN (below1 wc (.cells #[.int .i64 k, .int .i64 7] 41)) 1) hr hg3 (foot_of (hat.imp (fun e => e.symm) (fun e => by rw [e]; simp [Value.ownBlock]))) hS h5 HK.out h6 hs hbg 0
        clear q0 q1 q2 q6 k1 k4 h7 hr hg3 hat k3 ch2 d2'
        go_wp2_with fail
        go_ret
        obtain ⟨F5, c5, t5⟩ := hfin
        exact ⟨F5, rfl, c5, t5⟩
end Go.Proofs.YtffbcccbhofbpaaDoor
