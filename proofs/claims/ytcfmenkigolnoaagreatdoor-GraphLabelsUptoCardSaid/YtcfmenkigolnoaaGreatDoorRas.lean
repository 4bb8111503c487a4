/- Texts of one kind, one behind the other: each says ahead of itself what it shows. -/
import Derived.Test.YtcfmenkigolnoaaGreatDoorRaq
import Derived.Test.YtcfmenkigolnoaaGreatDoorRaf
/- Plain: the graph in its plain form, in new memory. -/
namespace Go.Proofs.YtcfmenkigolnoaaGreatDoor
open Go.RowKit

set_option maxHeartbeats 3200000 in
set_option maxRecDepth 20000 in
theorem map45 (tell : Int → NodeL) (l : List Int) (v : Value) (bx : Nat) (w : World) (h : IntsAt w v l) (hn : l.length ≤ 2097152)
    (each : ∀ x ∈ l, ∀ W, Below w.heap.size w W → Calls Tryz.prog 46 #[.int .i64 x, .pointer (some ⟨bx, 0, none⟩)] W (TellPost nodeE (tell x) W)) :
    Calls Tryz.prog 45 #[v, .func (.func 46) #[] #[.pointer (some ⟨bx, 0, none⟩)]] w (MapPost nodeE 38 w (l.map tell)) := by
  obtain ⟨n, hln⟩ : ∃ n, n = l.length := ⟨_, rfl⟩
  obtain ⟨p, cap, rfl, _⟩ := id h
  rw [← hln] at hn
  obtain ⟨i0, hi, hz0, hz1, hz2⟩ := info_parts zero_nodeE
  have HL := Lib.hid hln
  have HH := Lib.hid h
  have HE := Lib.hid each
  rw [← hln]
  clear h hln each
  go_enter Tryz.func45, Tryz.ntmps45
  go_wp2_with fail
  go_loopg [5, 10] n (fun gg s5 s10 wr => ∃ j : Nat, j + gg = n ∧ s10 = .int .i64 j ∧ Hid (AccE nodeE 38 w ((l.take j).map tell) s5 wr))
  case atStart => exact ⟨0, by omega, rfl, Lib.hid (AccE.start nodeE 38 w)⟩
  case round =>
    obtain ⟨j, hjg, rfl, HA⟩ := hrel
    by_cases hlt : (j : Int) < n
    · have hj1 : j < l.length := by have := HL.out; omega
      have hbel := HA.out.bel
      obtain ⟨pp, cc, e0, hcv⟩ := HH.out.below hbel
      injection e0 with e1 e2 e3
      subst e1
      obtain ⟨g, off, rfl, hcj⟩ := hcv (by intro q; rw [q] at hj1; simp at hj1)
      obtain ⟨x, hxj⟩ : ∃ x, x = l[j] := ⟨_, rfl⟩
      have c0 : wr.cell? ⟨g, off + j, none⟩ = some (.int .i64 x) := by
        rw [hcj j hj1, hxj]
        simp [hj1]
      have hjl : ((l.take j).map tell).length = j := by rw [List.length_map, List.length_take]; omega
      have etk : (l.take (j + 1)).map tell = (l.take j).map tell ++ [tell x] := by rw [List.take_succ_eq_append_getElem hj1, List.map_append, hxj]; rfl
      have hbs := hbel.size
      have bX : Below wr.heap.size wr wr := Below.refl _ _
      have hcall := HE.out x (by rw [hxj]; exact List.getElem_mem hj1) wr hbel
      have HX := Lib.hid (And.intro bX hbel)
      have HK := Lib.hid (And.intro hjl etk)
      clear hcj hcv hjl etk e2 e3 hbel bX hxj
      go_wp2_with (first
        | (go_at_call 46; (with_reducible refine hcall.mono ?_); rintro e w3 ⟨u, c', rfl, hu, hc', b3⟩
           obtain ⟨⟨xs, hown, hrow⟩, hbel⟩ := HA.out
           replace hown : wr.ownsRow w.heap.size 38 3 _ _ xs := hown
           have hown3 := own_below (own_below hown HX.out.1) b3
           have hlen' : c'.length = 3 := nodeE.len hc'
           have hone' := nodeE.one hc'
           have hsX := HX.out.1.size
           have hs3 := b3.size
           have HY := Lib.hid (And.intro hown (And.intro hrow (And.intro hbel (And.intro b3 hc'))))
           clear hown hrow hbel b3 hc' HA hcall)
        | ((with_reducible refine wpList_buildOne ?_ 22 38 (.tmp 17) ?_ u c' ?_ hu i0 _ 3 hlen' (by omega) (by omega) Tryz.underlying22 hi hz0 hz1 ?_); rfl; rfl; rfl)
        | (at_builtin; refine wpList_append_own_at _ rfl _ _ 22 rfl w.heap.size 38 i0 (.agg #[.int .i64 0, .slice none 0 0, .slice none 0 0]) 3 56 Tryz.underlying22 hi hz0 hz1 hz2 rfl (by decide) _ _ _ rfl (hown3.alloc _) ⟨w3.heap.size, 0, none⟩ 1 1 c' rfl (by rw [hlen']) (cells_new _ _ _) hone' ?_ ?_ ?_ ?_))
      all_goals (try (first | (rw [HK.out.1]; unfold maxLen; omega) | (rw [HK.out.1]; omega) | (simp; omega)))
      intro v' w5 hown' hgrow _ hloc
      have e9 : min j l.length = j := by omega
      rw [e9] at hown'
      have e10 := hown'
      rw [← HK.out.1] at e10
      have acc : AccE nodeE 38 w ((l.take (j + 1)).map tell) v' w5 := by
        rw [HK.out.2]
        exact AccE.next HY.out.1 HY.out.2.1 HY.out.2.2.1 HX.out.1 HY.out.2.2.2.1 HY.out.2.2.2.2 e10 hgrow (by simpa using hloc)
      have ACC := Lib.hid acc
      clear acc hown' hgrow hloc hown3 HY HX
      go_wp2_with fail
      go_roundg (gk - 1)
      case measure => omega
      case rel => exact ⟨j + 1, by omega, by go_num, ACC⟩
    · have e : l.take j = l := by rw [List.take_of_length_le]; have := HL.out; omega
      have hA := HA.out
      rw [e] at hA
      obtain ⟨⟨xs, hown, hrow⟩, hbel⟩ := hA
      have HX := Lib.hid (And.intro hown (And.intro hrow hbel))
      clear hown hrow hbel HA
      go_wp2_with fail
      go_ret
      exact ⟨_, xs, rfl, HX.out.1, HX.out.2.1, HX.out.2.2⟩
set_option maxHeartbeats 3200000 in
set_option maxRecDepth 20000 in
theorem map48 (tell : Int → EdgeL) (l : List Int) (v : Value) (bx : Nat) (w : World) (h : IntsAt w v l) (hn : l.length ≤ 2097152)
    (each : ∀ x ∈ l, ∀ W, Below w.heap.size w W → Calls Tryz.prog 49 #[.int .i64 x, .pointer (some ⟨bx, 0, none⟩)] W (TellPost edgeE (tell x) W)) :
    Calls Tryz.prog 48 #[v, .func (.func 49) #[] #[.pointer (some ⟨bx, 0, none⟩)]] w (MapPost edgeE 41 w (l.map tell)) := by
  obtain ⟨n, hln⟩ : ∃ n, n = l.length := ⟨_, rfl⟩
  obtain ⟨p, cap, rfl, _⟩ := id h
  rw [← hln] at hn
  obtain ⟨i0, hi, hz0, hz1, hz2⟩ := info_parts zero_edgeE
  have HL := Lib.hid hln
  have HH := Lib.hid h
  have HE := Lib.hid each
  rw [← hln]
  clear h hln each
  go_enter Tryz.func48, Tryz.ntmps48
  go_wp2_with fail
  go_loopg [5, 10] n (fun gg s5 s10 wr => ∃ j : Nat, j + gg = n ∧ s10 = .int .i64 j ∧ Hid (AccE edgeE 41 w ((l.take j).map tell) s5 wr))
  case atStart => exact ⟨0, by omega, rfl, Lib.hid (AccE.start edgeE 41 w)⟩
  case round =>
    obtain ⟨j, hjg, rfl, HA⟩ := hrel
    by_cases hlt : (j : Int) < n
    · have hj1 : j < l.length := by have := HL.out; omega
      have hbel := HA.out.bel
      obtain ⟨pp, cc, e0, hcv⟩ := HH.out.below hbel
      injection e0 with e1 e2 e3
      subst e1
      obtain ⟨g, off, rfl, hcj⟩ := hcv (by intro q; rw [q] at hj1; simp at hj1)
      obtain ⟨x, hxj⟩ : ∃ x, x = l[j] := ⟨_, rfl⟩
      have c0 : wr.cell? ⟨g, off + j, none⟩ = some (.int .i64 x) := by
        rw [hcj j hj1, hxj]
        simp [hj1]
      have hjl : ((l.take j).map tell).length = j := by rw [List.length_map, List.length_take]; omega
      have etk : (l.take (j + 1)).map tell = (l.take j).map tell ++ [tell x] := by rw [List.take_succ_eq_append_getElem hj1, List.map_append, hxj]; rfl
      have hbs := hbel.size
      have bX : Below wr.heap.size wr wr := Below.refl _ _
      have hcall := HE.out x (by rw [hxj]; exact List.getElem_mem hj1) wr hbel
      have HX := Lib.hid (And.intro bX hbel)
      have HK := Lib.hid (And.intro hjl etk)
      clear hcj hcv hjl etk e2 e3 hbel bX hxj
      go_wp2_with (first
        | (go_at_call 49; (with_reducible refine hcall.mono ?_); rintro e w3 ⟨u, c', rfl, hu, hc', b3⟩
           obtain ⟨⟨xs, hown, hrow⟩, hbel⟩ := HA.out
           replace hown : wr.ownsRow w.heap.size 41 5 _ _ xs := hown
           have hown3 := own_below (own_below hown HX.out.1) b3
           have hlen' : c'.length = 5 := edgeE.len hc'
           have hone' := edgeE.one hc'
           have hsX := HX.out.1.size
           have hs3 := b3.size
           have HY := Lib.hid (And.intro hown (And.intro hrow (And.intro hbel (And.intro b3 hc'))))
           clear hown hrow hbel b3 hc' HA hcall)
        | ((with_reducible refine wpList_buildOne ?_ 23 41 (.tmp 17) ?_ u c' ?_ hu i0 _ 5 hlen' (by omega) (by omega) Tryz.underlying23 hi hz0 hz1 ?_); rfl; rfl; rfl)
        | (at_builtin; refine wpList_append_own_at _ rfl _ _ 23 rfl w.heap.size 41 i0 (.agg #[.int .i64 0, .int .i64 0, .int .i64 0, .string ⟨#[]⟩, .slice none 0 0]) 5 64 Tryz.underlying23 hi hz0 hz1 hz2 rfl (by decide) _ _ _ rfl (hown3.alloc _) ⟨w3.heap.size, 0, none⟩ 1 1 c' rfl (by rw [hlen']) (cells_new _ _ _) hone' ?_ ?_ ?_ ?_))
      all_goals (try (first | (rw [HK.out.1]; unfold maxLen; omega) | (rw [HK.out.1]; omega) | (simp; omega)))
      intro v' w5 hown' hgrow _ hloc
      have e9 : min j l.length = j := by omega
      rw [e9] at hown'
      have e10 := hown'
      rw [← HK.out.1] at e10
      have acc : AccE edgeE 41 w ((l.take (j + 1)).map tell) v' w5 := by
        rw [HK.out.2]
        exact AccE.next HY.out.1 HY.out.2.1 HY.out.2.2.1 HX.out.1 HY.out.2.2.2.1 HY.out.2.2.2.2 e10 hgrow (by simpa using hloc)
      have ACC := Lib.hid acc
      clear acc hown' hgrow hloc hown3 HY HX
      go_wp2_with fail
      go_roundg (gk - 1)
      case measure => omega
      case rel => exact ⟨j + 1, by omega, by go_num, ACC⟩
    · have e : l.take j = l := by rw [List.take_of_length_le]; have := HL.out; omega
      have hA := HA.out
      rw [e] at hA
      obtain ⟨⟨xs, hown, hrow⟩, hbel⟩ := hA
      have HX := Lib.hid (And.intro hown (And.intro hrow hbel))
      clear hown hrow hbel HA
      go_wp2_with fail
      go_ret
      exact ⟨_, xs, rfl, HX.out.1, HX.out.2.1, HX.out.2.2⟩
theorem ownNodeC (a : NodeL) (W : World) (c : List Value) (h : nodeE.rel W (Old W) c a) : Calls Tryz.prog 47 #[.agg c.toArray] W fun e w' => ∃ c', e = .returned (.agg c'.toArray) ∧ nodeE.rel w' (New W w') c' a ∧ Below W.heap.size W w' := by
  obtain ⟨id, ls, ps⟩ := a
  obtain ⟨lv, pv, rfl, hid, hn1, hn2, hl, hp⟩ := h
  obtain ⟨p1, c1, rfl⟩ := hl.slice
  obtain ⟨p2, c2, rfl⟩ := hp.slice
  refine (ownNodeStep id ls ps p1 p2 c1 c2 W hn1 hn2 hl hp).mono ?_
  rintro e w' ⟨V, U, rfl, hV, hU, hb⟩
  exact ⟨[.int .i64 id, V, U], rfl, ⟨V, U, rfl, hid, hn1, hn2, hV.slice (Nat.le_refl _), hU.slice (Nat.le_refl _)⟩, hb⟩
theorem ownEdgeC (a : EdgeL) (W : World) (c : List Value) (h : edgeE.rel W (Old W) c a) : Calls Tryz.prog 50 #[.agg c.toArray] W fun e w' => ∃ c', e = .returned (.agg c'.toArray) ∧ edgeE.rel w' (New W w') c' a ∧ Below W.heap.size W w' := by
  obtain ⟨id, src, dst, ty, ps⟩ := a
  obtain ⟨pv, rfl, hid, hn1, hn2, hp⟩ := h
  obtain ⟨p2, c2, rfl⟩ := hp.slice
  refine (ownEdgeStep id src dst ty ps p2 c2 W hn1 hn2 hp).mono ?_
  rintro e w' ⟨U, rfl, hU, hb⟩
  exact ⟨[.int .i64 id, .int .i64 src, .int .i64 dst, .string ty, U], rfl, ⟨U, rfl, hid, hn1, hn2, hU.slice (Nat.le_refl _)⟩, hb⟩
/-- A box that holds the store's pointer. -/
def BoxS (w : World) (b s : Nat) : Prop := w.heap[b]? = some (.cells #[.pointer (some ⟨s, 0, none⟩)] 29 (0, 0))
set_option maxHeartbeats 3200000 in
set_option maxRecDepth 20000 in
theorem tellNode (a : NodeL) (W : World) (s b : Nat) (g : GraphL) (h : StoreE W s g) (hb : BoxS W b s) (ha : a ∈ g.nodes) (hd : (a.props.map fun p => bl p.key).Nodup) :
    Calls Tryz.prog 46 #[.int .i64 a.id, .pointer (some ⟨b, 0, none⟩)] W (TellPost nodeE (plainN a) W) := by
  obtain ⟨m0, m1, m4, m5, V2, V3, q0, q1, q2, _, _, _, _⟩ := h.is
  obtain ⟨nn, f, hnn, hmap, h3, _⟩ := q1
  obtain ⟨a', c, hp, hff, hr⟩ := h3 a ha
  rw [hp.eq hd] at hr
  have hwf : (Lit.int .i64 a.id).wf = true := by obtain ⟨_, _, rfl, hw, _⟩ := hr; exact hw
  have hki : keyOf Tryz.prog 2 (.int .i64 a.id) = some (.int .i64 a.id) := Go.Maps.keyOf_int_mk Tryz.underlying2 hwf
  have u1 : (W.alloc (.cells #[.int .i64 0, .slice none 0 0, .slice none 0 0] 38)).heap[W.heap.size]? = some (.cells #[.int .i64 0, .slice none 0 0, .slice none 0 0] 38 (0, 0)) := heap_new _ _ rfl
  have b0 := below1 W (.cells #[.int .i64 0, .slice none 0 0, .slice none 0 0] 38)
  have us : (W.alloc (.cells #[.int .i64 0, .slice none 0 0, .slice none 0 0] 38)).heap[s]? = _ := heap_old _ q0
  have ub : (W.alloc (.cells #[.int .i64 0, .slice none 0 0, .slice none 0 0] 38)).heap[b]? = some (.cells #[.pointer (some ⟨s, 0, none⟩)] 29 (0, 0)) := heap_old _ hb
  replace hmap := hmap.keep (b0.block _ hmap.lt)
  obtain ⟨W0, hW0⟩ : ∃ W0, W0 = W.alloc (.cells #[.int .i64 0, .slice none 0 0, .slice none 0 0] 38) := ⟨_, rfl⟩
  have hz1 : ∀ u ∈ [Value.int .i64 0, .slice none 0 0, .slice none 0 0], u.oneCell' = true := by simp [Value.oneCell']
  rw [← hW0] at u1 b0 us ub hmap
  have cs := cell_of us 0 rfl
  have cb := cell_of ub 0 rfl
  have s0 : W.heap.size < W0.heap.size := lt_of_heap u1
  have HC := Lib.hid (ownNodeC (plainN a) W0 c (nodeE.stays (old_below b0) hr))
  have H0 := Lib.hid hW0
  obtain ⟨id, hid⟩ : ∃ id, id = a.id := ⟨_, rfl⟩
  rw [← hid] at hki hff ⊢
  clear hW0 hr hp h3 hwf hb h q0 q2 hid
  go_enter Tryz.func46, Tryz.ntmps46
  go_upto_region 1 with fail
  rw [← H0.out]
  go_wp2_with (first
    | (at_lookup; refine wpList_look_held rfl _ _ 73 rfl 2 38 law2 Tryz.underlying73 (zero73 _) m0 nn rfl hmap _ (.int .i64 id) rfl hki trivial ?_; rw [hff]; simp only [Option.getD_some])
    | (go_at_call 47; (with_reducible refine HC.out.mono ?_); rintro e w3 ⟨c', rfl, hc', hb3⟩
       have u3 := (hb3.block _ (lt_of_heap u1)).trans u1
       have hlen : c'.length = 3 := nodeE.len hc'
       have hone := nodeE.one hc'
       have HR := Lib.hid (And.intro hc' hb3)
       clear hc' hb3)
    | ((with_reducible refine wpList_storeE (.tmp 3) (.tmp 10) W.heap.size 38 38 _ c' 3 u3 hlen ?_ ?_ ?_ ?_ size_nodeE rfl hone ?_); rfl; rfl; rfl; rfl; intro wX oX u5))
  have hsz := oX.size
  exact bodyPost_ret (results_cell_row (p := 3) (ty := 38) Tryz.results46 _ _ W.heap.size 38 _ (0, 0) _ rfl u5 Tryz.underlying38 rfl (by rw [size_nodeE]; simp [hlen])) rfl
    ⟨_, c', rfl, rfl, nodeE.stays (fun i hi => ⟨⟨by have := hi.1; omega, Nat.lt_of_lt_of_le hi.2 hsz⟩, oX.block i hi.2 (by have := hi.1; omega)⟩) HR.out.1, below_only (below_any b0 HR.out.2 b0.size) oX (Nat.le_refl _) (Nat.le_trans b0.size HR.out.2.size)⟩
set_option maxHeartbeats 3200000 in
set_option maxRecDepth 20000 in
theorem tellEdge (a : EdgeL) (W : World) (s b : Nat) (g : GraphL) (h : StoreE W s g) (hb : BoxS W b s) (ha : a ∈ g.edges) (hd : (a.props.map fun p => bl p.key).Nodup) :
    Calls Tryz.prog 49 #[.int .i64 a.id, .pointer (some ⟨b, 0, none⟩)] W (TellPost edgeE (plainE a) W) := by
  obtain ⟨m0, m1, m4, m5, V2, V3, q0, q1, q2, _, _, _, _⟩ := h.is
  obtain ⟨nn, f, hnn, hmap, h3, _⟩ := q2
  obtain ⟨a', c, hp, hff, hr⟩ := h3 a ha
  rw [hp.eq hd] at hr
  have hwf : (Lit.int .i64 a.id).wf = true := by obtain ⟨_, rfl, hw, _⟩ := hr; exact hw.1
  have hki : keyOf Tryz.prog 2 (.int .i64 a.id) = some (.int .i64 a.id) := Go.Maps.keyOf_int_mk Tryz.underlying2 hwf
  have u1 : (W.alloc (.cells #[.int .i64 0, .int .i64 0, .int .i64 0, .string ⟨#[]⟩, .slice none 0 0] 41)).heap[W.heap.size]? = some (.cells #[.int .i64 0, .int .i64 0, .int .i64 0, .string ⟨#[]⟩, .slice none 0 0] 41 (0, 0)) := heap_new _ _ rfl
  have b0 := below1 W (.cells #[.int .i64 0, .int .i64 0, .int .i64 0, .string ⟨#[]⟩, .slice none 0 0] 41)
  have us : (W.alloc (.cells #[.int .i64 0, .int .i64 0, .int .i64 0, .string ⟨#[]⟩, .slice none 0 0] 41)).heap[s]? = _ := heap_old _ q0
  have ub : (W.alloc (.cells #[.int .i64 0, .int .i64 0, .int .i64 0, .string ⟨#[]⟩, .slice none 0 0] 41)).heap[b]? = some (.cells #[.pointer (some ⟨s, 0, none⟩)] 29 (0, 0)) := heap_old _ hb
  replace hmap := hmap.keep (b0.block _ hmap.lt)
  obtain ⟨W0, hW0⟩ : ∃ W0, W0 = W.alloc (.cells #[.int .i64 0, .int .i64 0, .int .i64 0, .string ⟨#[]⟩, .slice none 0 0] 41) := ⟨_, rfl⟩
  have hz1 : ∀ u ∈ [Value.int .i64 0, .int .i64 0, .int .i64 0, .string ⟨#[]⟩, .slice none 0 0], u.oneCell' = true := by simp [Value.oneCell']
  rw [← hW0] at u1 b0 us ub hmap
  have cs := cell_of us 1 rfl
  have cb := cell_of ub 0 rfl
  have s0 : W.heap.size < W0.heap.size := lt_of_heap u1
  have HC := Lib.hid (ownEdgeC (plainE a) W0 c (edgeE.stays (old_below b0) hr))
  have H0 := Lib.hid hW0
  obtain ⟨id, hid⟩ : ∃ id, id = a.id := ⟨_, rfl⟩
  rw [← hid] at hki hff ⊢
  clear hW0 hr hp h3 hwf hb h q0 q1 hid
  go_enter Tryz.func49, Tryz.ntmps49
  go_upto_region 1 with fail
  rw [← H0.out]
  go_wp2_with (first
    | (at_lookup; refine wpList_look_held rfl _ _ 74 rfl 2 41 law2 Tryz.underlying74 (zero74 _) m1 nn rfl hmap _ (.int .i64 id) rfl hki trivial ?_; rw [hff]; simp only [Option.getD_some])
    | (go_at_call 50; (with_reducible refine HC.out.mono ?_); rintro e w3 ⟨c', rfl, hc', hb3⟩
       have u3 := (hb3.block _ (lt_of_heap u1)).trans u1
       have hlen : c'.length = 5 := edgeE.len hc'
       have hone := edgeE.one hc'
       have HR := Lib.hid (And.intro hc' hb3)
       clear hc' hb3)
    | ((with_reducible refine wpList_storeE (.tmp 3) (.tmp 10) W.heap.size 41 41 _ c' 5 u3 hlen ?_ ?_ ?_ ?_ size_edgeE rfl hone ?_); rfl; rfl; rfl; rfl; intro wX oX u5))
  have hsz := oX.size
  exact bodyPost_ret (results_cell_row (p := 3) (ty := 41) Tryz.results49 _ _ W.heap.size 41 _ (0, 0) _ rfl u5 Tryz.underlying41 rfl (by rw [size_edgeE]; simp [hlen])) rfl
    ⟨_, c', rfl, rfl, edgeE.stays (fun i hi => ⟨⟨by have := hi.1; omega, Nat.lt_of_lt_of_le hi.2 hsz⟩, oX.block i hi.2 (by have := hi.1; omega)⟩) HR.out.1, below_only (below_any b0 HR.out.2 b0.size) oX (Nat.le_refl _) (Nat.le_trans b0.size HR.out.2.size)⟩
/-- What Plain tells, and where it lies. -/
def PlainPost (W : World) (g : GraphL) (e : Ending) (w' : World) : Prop :=
  ∃ vn ve xn xe mid, e = .returned (.agg #[vn, ve]) ∧ W.heap.size ≤ mid ∧ mid ≤ w'.heap.size ∧ (∀ b, vn.ownBlock = some b → b < mid) ∧
    w'.ownsRow W.heap.size 38 3 vn (plainG g).nodes.length xn ∧ RowE nodeE w' (fun i => W.heap.size ≤ i ∧ i < mid ∧ vn.ownBlock ≠ some i) xn (plainG g).nodes ∧
    w'.ownsRow mid 41 5 ve (plainG g).edges.length xe ∧ RowE edgeE w' (fun i => mid ≤ i ∧ i < w'.heap.size ∧ ve.ownBlock ≠ some i) xe (plainG g).edges ∧ Below W.heap.size W w'
set_option maxHeartbeats 6400000 in
set_option maxRecDepth 20000 in
theorem plainAt (W : World) (s : Nat) (g : GraphL) (h : StoreE W s g) (hg : GoodG g) : Calls Tryz.prog 16 #[.pointer (some ⟨s, 0, none⟩)] W (PlainPost W g) := by
  obtain ⟨m0, m1, m4, m5, V2, V3, q0, q1, q2, q3, q4, _, _⟩ := h.is
  have e3 : (g.nodes.map NodeL.id).mergeSort leI = numsN g := rfl
  have e4 : (g.edges.map EdgeL.id).mergeSort leI = numsE g := rfl
  rw [e3] at q3
  rw [e4] at q4
  have i3 := ints_of_own q3
  have i4 := ints_of_own q4
  obtain ⟨p3, k3, rfl⟩ := own_slice q3
  obtain ⟨p4, k4, rfl⟩ := own_slice q4
  obtain ⟨w1, hw1⟩ : ∃ w1, w1 = (W.alloc (.cells #[.pointer (some ⟨s, 0, none⟩)] 29)).alloc (.cells #[.slice none 0 0, .slice none 0 0] 25) := ⟨_, rfl⟩
  have u1 : w1.heap[W.heap.size]? = some (.cells #[.pointer (some ⟨s, 0, none⟩)] 29 (0, 0)) := by rw [hw1]; exact heap_old _ (heap_new _ _ rfl)
  have u2 : w1.heap[W.heap.size + 1]? = some (.cells #[.slice none 0 0, .slice none 0 0] 25 (0, 0)) := by rw [hw1]; exact heap_new _ _ (by simp)
  have bw : Below W.heap.size W w1 := by rw [hw1]; exact below2 _ _ _
  have us := (bw.block _ (lt_of_heap q0)).trans q0
  have hsz1 : W.heap.size + 2 ≤ w1.heap.size := by rw [hw1]; simp
  have H45 : Hid (∀ W', Below W.heap.size W W' → BoxS W' W.heap.size s → Calls Tryz.prog 45 #[.slice p3 (numsN g).length k3, .func (.func 46) #[] #[.pointer (some ⟨W.heap.size, 0, none⟩)]] W' (MapPost nodeE 38 W' (plainG g).nodes)) := Lib.hid fun W' hb hx => by
    refine map45 (nodeAt g) (numsN g) _ _ W' (i3.below hb) (by rw [numsN_len]; have := hg.nn; omega) fun x hxm W2 hb2 => ?_
    obtain ⟨a, ha, rfl⟩ := List.mem_map.1 (List.mem_mergeSort.1 hxm)
    rw [nodeAt_eq hg.dn ha]
    exact tellNode a W2 s _ g ((h.below hb).below hb2) ((hb2.block _ (lt_of_heap hx)).trans hx) ha (props_keys (hg.nkeys a ha)).2.1
  have H48 : Hid (∀ W', Below W.heap.size W W' → BoxS W' W.heap.size s → Calls Tryz.prog 48 #[.slice p4 (numsE g).length k4, .func (.func 49) #[] #[.pointer (some ⟨W.heap.size, 0, none⟩)]] W' (MapPost edgeE 41 W' (plainG g).edges)) := Lib.hid fun W' hb hx => by
    refine map48 (edgeAt g) (numsE g) _ _ W' (i4.below hb) (by rw [numsE_len]; have := hg.ne; omega) fun x hxm W2 hb2 => ?_
    obtain ⟨a, ha, rfl⟩ := List.mem_map.1 (List.mem_mergeSort.1 hxm)
    rw [edgeAt_eq hg.de ha]
    exact tellEdge a W2 s _ g ((h.below hb).below hb2) ((hb2.block _ (lt_of_heap hx)).trans hx) ha (props_keys (hg.ekeys a ha).1).2.1
  have HW := Lib.hid hw1
  clear hw1 q1 q2 q3 q4 i3 i4 e3 e4 hg
  go_enter Tryz.func16, Tryz.ntmps16
  go_upto_region 1 with fail
  rw [← HW.out]
  refine wp_region_held_drew (S := fun W' => W'.heap[W.heap.size]? = some (.cells #[.pointer (some ⟨s, 0, none⟩)] 29 (0, 0)) ∧ W'.heap[s]? = some (.cells #[.map (some m0), .map (some m1), .slice p3 (numsN g).length k3, .slice p4 (numsE g).length k4, .map (some m4), .map (some m5)] 79 (0, 0))) (by kernel_rfl) ⟨u1, us⟩ (fun _ => ?_)
  replace bw := bw.drew
  replace u1 : w1.drew.heap[W.heap.size]? = _ := u1
  replace u2 : w1.drew.heap[W.heap.size + 1]? = _ := u2
  replace us : w1.drew.heap[s]? = _ := us
  replace hsz1 : W.heap.size + 2 ≤ w1.drew.heap.size := hsz1
  refine wpAnyH_take (i := 0) (v := .pointer (some ⟨s, 0, none⟩)) rfl (by kernel_rfl) (by kernel_rfl) (by kernel_rfl) (fun _ _ _ h => h) (Or.inl ⟨by rfl, fun W' h => by have c0 := cell_of h.1 0 rfl; go_simp⟩) (⟨u1, us⟩) ?_
  try simp only [Act.put, List.getElem_toArray, List.getElem_cons_succ, List.getElem_cons_zero, List.setIfInBounds_toArray, List.set_cons_zero, List.set_cons_succ]
  refine wpAnyH_take (i := 4) (v := .func (.func 46) #[] #[.pointer (some ⟨W.heap.size, 0, none⟩)]) rfl (by kernel_rfl) (by kernel_rfl) (by kernel_rfl) (fun _ _ _ h => h) (Or.inl ⟨by rfl, fun W _ => by go_simp⟩) (⟨u1, us⟩) ?_
  try simp only [Act.put, List.getElem_toArray, List.getElem_cons_succ, List.getElem_cons_zero, List.setIfInBounds_toArray, List.set_cons_zero, List.set_cons_succ]
  refine wpAnyH_take (i := 6) (v := .pointer (some ⟨s, 0, none⟩)) rfl (by kernel_rfl) (by kernel_rfl) (by kernel_rfl) (fun _ _ _ h => h) (Or.inl ⟨by rfl, fun W' h => by have c0 := cell_of h.1 0 rfl; go_simp⟩) (⟨u1, us⟩) ?_
  try simp only [Act.put, List.getElem_toArray, List.getElem_cons_succ, List.getElem_cons_zero, List.setIfInBounds_toArray, List.set_cons_zero, List.set_cons_succ]
  refine wpAnyH_take (i := 10) (v := .func (.func 49) #[] #[.pointer (some ⟨W.heap.size, 0, none⟩)]) rfl (by kernel_rfl) (by kernel_rfl) (by kernel_rfl) (fun _ _ _ h => h) (Or.inl ⟨by rfl, fun W _ => by go_simp⟩) (⟨u1, us⟩) ?_
  try simp only [Act.put, List.getElem_toArray, List.getElem_cons_succ, List.getElem_cons_zero, List.setIfInBounds_toArray, List.set_cons_zero, List.set_cons_succ]
  refine wpAnyH_take (i := 1) (v := .pointer (some ⟨s, 0, none⟩)) rfl (by kernel_rfl) (by kernel_rfl) (by kernel_rfl) (fun _ _ _ h => h) (Or.inl ⟨by rfl, fun W _ => by go_simp⟩) (⟨u1, us⟩) ?_
  try simp only [Act.put, List.getElem_toArray, List.getElem_cons_succ, List.getElem_cons_zero, List.setIfInBounds_toArray, List.set_cons_zero, List.set_cons_succ]
  refine wpAnyH_take (i := 7) (v := .pointer (some ⟨s, 0, none⟩)) rfl (by kernel_rfl) (by kernel_rfl) (by kernel_rfl) (fun _ _ _ h => h) (Or.inl ⟨by rfl, fun W _ => by go_simp⟩) (⟨u1, us⟩) ?_
  try simp only [Act.put, List.getElem_toArray, List.getElem_cons_succ, List.getElem_cons_zero, List.setIfInBounds_toArray, List.set_cons_zero, List.set_cons_succ]
  refine wpAnyH_take (i := 2) (v := .pointer (some ⟨s, 2, none⟩)) rfl (by kernel_rfl) (by kernel_rfl) (by kernel_rfl) (fun _ _ _ h => h) (Or.inl ⟨by rfl, fun W _ => by go_simp⟩) (⟨u1, us⟩) ?_
  try simp only [Act.put, List.getElem_toArray, List.getElem_cons_succ, List.getElem_cons_zero, List.setIfInBounds_toArray, List.set_cons_zero, List.set_cons_succ]
  refine wpAnyH_take (i := 8) (v := .pointer (some ⟨s, 3, none⟩)) rfl (by kernel_rfl) (by kernel_rfl) (by kernel_rfl) (fun _ _ _ h => h) (Or.inl ⟨by rfl, fun W _ => by go_simp⟩) (⟨u1, us⟩) ?_
  try simp only [Act.put, List.getElem_toArray, List.getElem_cons_succ, List.getElem_cons_zero, List.setIfInBounds_toArray, List.set_cons_zero, List.set_cons_succ]
  refine wpAnyH_take (i := 3) (v := .slice p3 (numsN g).length k3) rfl (by kernel_rfl) (by kernel_rfl) (by kernel_rfl) (fun _ _ _ h => h) (Or.inl ⟨by rfl, fun W' h => by have c0 := cell_of h.2 2 rfl; go_simp⟩) (⟨u1, us⟩) ?_
  try simp only [Act.put, List.getElem_toArray, List.getElem_cons_succ, List.getElem_cons_zero, List.setIfInBounds_toArray, List.set_cons_zero, List.set_cons_succ]
  refine wpAnyH_take (i := 9) (v := .slice p4 (numsE g).length k4) rfl (by kernel_rfl) (by kernel_rfl) (by kernel_rfl) (fun _ _ _ h => h) (Or.inl ⟨by rfl, fun W' h => by have c0 := cell_of h.2 3 rfl; go_simp⟩) (⟨u1, us⟩) ?_
  try simp only [Act.put, List.getElem_toArray, List.getElem_cons_succ, List.getElem_cons_zero, List.setIfInBounds_toArray, List.set_cons_zero, List.set_cons_succ]
  refine wpAnyH_ready (rs := [5]) (by kernel_rfl) (by simp) ?_
  refine AllReadyH.cons rfl (fun K hK => ?_) AllReadyH.nil
  rw [if_pos (by rfl)]
  go_simp
  refine (H45.out _ bw u1).mono ?_
  rintro e0 w3 ⟨vn, xn, rfl, hon, hrn, hb3⟩
  have hm3 := hb3.size
  obtain ⟨pn, kn, rfl⟩ := own_slice hon
  replace u1 := (hb3.block _ (lt_of_heap u1)).trans u1
  replace u2 := (hb3.block _ (lt_of_heap u2)).trans u2
  replace us := (hb3.block _ (lt_of_heap us)).trans us
  replace bw := below_any bw hb3 bw.size
  have HN := Lib.hid (And.intro hon hrn)
  clear hb3 hon hrn
  refine hK.out _ _ (⟨u1, us⟩) (fun _ => ?_)
  clear hK K
  try simp only [Act.put, List.getElem_toArray, List.getElem_cons_succ, List.getElem_cons_zero, List.setIfInBounds_toArray, List.set_cons_zero, List.set_cons_succ]
  refine wpAnyH_ready (rs := [11]) (by kernel_rfl) (by simp) ?_
  refine AllReadyH.cons rfl (fun K hK => ?_) AllReadyH.nil
  rw [if_pos (by rfl)]
  go_simp
  refine (H48.out _ bw u1).mono ?_
  rintro e0 w4 ⟨ve, xe, rfl, hoe, hre, hb4⟩
  have hm4 := hb4.size
  obtain ⟨pe, ke, rfl⟩ := own_slice hoe
  replace u1 := (hb4.block _ (lt_of_heap u1)).trans u1
  replace u2 := (hb4.block _ (lt_of_heap u2)).trans u2
  replace us := (hb4.block _ (lt_of_heap us)).trans us
  replace bw := below_any bw hb4 bw.size
  have HE := Lib.hid (And.intro hoe (And.intro hre hb4))
  clear hb4 hoe hre
  refine hK.out _ _ (⟨u1, us⟩) (fun _ => ?_)
  clear hK K
  try simp only [Act.put, List.getElem_toArray, List.getElem_cons_succ, List.getElem_cons_zero, List.setIfInBounds_toArray, List.set_cons_zero, List.set_cons_succ]
  refine wpAnyH_take (i := 12) (v := .agg #[.slice pn (plainG g).nodes.length kn, .slice pe (plainG g).edges.length ke]) rfl (by kernel_rfl) (by kernel_rfl) (by kernel_rfl) (fun _ _ _ h => h) (Or.inl ⟨by rfl, fun W _ => by go_simp⟩) (⟨u1, us⟩) ?_
  try simp only [Act.put, List.getElem_toArray, List.getElem_cons_succ, List.getElem_cons_zero, List.setIfInBounds_toArray, List.set_cons_zero, List.set_cons_succ]
  refine wpAnyH_ready (rs := [13]) (by kernel_rfl) (by simp) ?_
  refine AllReadyH.cons rfl (fun K hK => ?_) AllReadyH.nil
  rw [if_pos (by rfl)]
  refine wp_store_row 25 (.tmp 2) (.tmp 15) rfl (W.heap.size + 1) #[.slice pn (plainG g).nodes.length kn, .slice pe (plainG g).edges.length ke] rfl rfl 25 _ u2 size25 rfl (by simp [Value.oneCell']) ?_
  have u5 := heap_setRow (c' := #[.slice pn (plainG g).nodes.length kn, .slice pe (plainG g).edges.length ke]) u2
  have on := Only.setRow (b := W.heap.size + 1) w4 #[.slice pn (plainG g).nodes.length kn, .slice pe (plainG g).edges.length ke]
  have hlt2 := lt_of_heap u2
  have hlts := lt_of_heap q0
  replace u1 := (on.block W.heap.size (lt_of_heap u1) (by omega)).trans u1
  replace us := (on.block s (lt_of_heap us) (by omega)).trans us
  have bz := below_only bw on (Nat.le_succ _) bw.size
  refine hK.out _ _ (⟨u1, us⟩) (fun _ => ?_)
  clear hK K
  try simp only [Act.put, List.getElem_toArray, List.getElem_cons_succ, List.getElem_cons_zero, List.setIfInBounds_toArray, List.set_cons_zero, List.set_cons_succ]
  refine wpAnyH_done (by kernel_rfl) ?_ _
  go_wp2_with fail
  have hon := HN.out.1
  have hrn := HN.out.2
  have hoe := HE.out.1
  have hre := HE.out.2.1
  have hb4 := HE.out.2.2
  have hsz := on.size
  refine bodyPost_ret (results_cell_row (p := 2) (ty := 25) Tryz.results16 _ _ (W.heap.size + 1) 25 _ (0, 0) _ rfl u5 Tryz.underlying25 rfl size25) rfl ?_
  refine ⟨_, _, xn, xe, w3.heap.size, rfl, by omega, by omega, fun b hb => (hon.lt b hb).2, ?_, ?_, ?_, ?_, bz⟩
  · exact own_base (own_keep hon fun i e => (on.block i (Nat.lt_of_lt_of_le (hon.lt i e).2 hm4) (by have := (hon.lt i e).1; omega)).trans (hb4.block i (hon.lt i e).2)) (by omega)
  · exact RowE.stays (fun i hi => ⟨⟨by have := hi.1; omega, hi.2.1, hi.2.2⟩, (on.block i (Nat.lt_of_lt_of_le hi.2.1 hm4) (by have := hi.1; omega)).trans (hb4.block i hi.2.1)⟩) _ hrn
  · exact own_keep hoe fun i e => on.block i (hoe.lt i e).2 (by have := (hoe.lt i e).1; omega)
  · exact RowE.stays (fun i hi => ⟨⟨hi.1, Nat.lt_of_lt_of_le hi.2.1 hsz, hi.2.2⟩, on.block i hi.2.1 (by have := hi.1; omega)⟩) _ hre
theorem PlainPost.slices {W : World} {g : GraphL} {e : Ending} {w' : World} (h : PlainPost W g e w') : ∃ vn ve, e = .returned (.agg #[vn, ve]) ∧ SliceE nodeE w' (New W w') vn (plainG g).nodes ∧ SliceE edgeE w' (New W w') ve (plainG g).edges ∧ Below W.heap.size W w' := by
  obtain ⟨vn, ve, xn, xe, mid, rfl, h1, h2, h3, h4, h5, h6, h7, h8⟩ := h
  exact ⟨vn, ve, rfl, sliceE_of_own h4 h5 (fun i hi => ⟨hi.1, by omega⟩) (fun i e => h4.lt i e), sliceE_of_own h6 h7 (fun i hi => ⟨by omega, hi.2.1⟩) (fun i e => ⟨by have := (h6.lt i e).1; omega, (h6.lt i e).2⟩), h8⟩
end Go.Proofs.YtcfmenkigolnoaaGreatDoor

/- Labels and ways, asked by a row of texts that is built for it. -/
namespace Go.Proofs.YtcfmenkigolnoaaGreatDoor
open Go.RowKit

/-- What tells a row of numbers. -/
def LabPost (W : World) (zs : List Int) (e : Ending) (w' : World) : Prop := ∃ p cap, e = .returned (.slice p zs.length cap) ∧ IntsAt w' (.slice p zs.length cap) zs ∧ Below W.heap.size W w'
theorem strs_new (W : World) (xs : List ByteArray) : StrsAt (W.alloc (.cells (xs.map Value.string).toArray 9)) (.slice (some ⟨W.heap.size, 0, none⟩) xs.length xs.length) xs :=
  ⟨_, _, rfl, fun _ => ⟨W.heap.size, 0, rfl, fun j hj => cell_of (heap_new _ _ rfl) (0 + j) (by simp [hj])⟩⟩
theorem askLab (W : World) (s : Nat) (g : GraphL) (h : StoreE W s g) (hg : GoodG g) (xs : List ByteArray) (hx : ∀ t ∈ xs, t.size ≤ 2097152) (hl : xs.length ≤ 2) :
    Calls Tryz.prog 31 #[.pointer (some ⟨s, 0, none⟩), .slice (some ⟨W.heap.size, 0, none⟩) xs.length xs.length] (W.alloc (.cells (xs.map Value.string).toArray 9)) (LabPost W (labeledL g xs)) := by
  have b0 := below1 W (.cells (xs.map Value.string).toArray 9)
  refine (labeledAt _ s g (h.below b0) hg.dn (fun a ha => (hg.labels a ha).2.1) hg.nn _ xs (strs_new W xs) (by omega) hx).mono ?_
  rintro e w' ⟨R, rfl, hR, hb⟩
  obtain ⟨p, cap, rfl⟩ := own_slice hR
  exact ⟨p, cap, rfl, ints_of_own hR, below_any b0 hb b0.size⟩
theorem askHop (W : World) (s : Nat) (g : GraphL) (h : StoreE W s g) (hg : GoodG g) (n d : Int) (hn : (Lit.int .i64 n).wf = true ∧ (Lit.int .i64 d).wf = true) (xs : List ByteArray) (hl : xs.length ≤ 2) :
    Calls Tryz.prog 23 #[.pointer (some ⟨s, 0, none⟩), .int .i64 n, .int .i64 d, .slice (some ⟨W.heap.size, 0, none⟩) xs.length xs.length] (W.alloc (.cells (xs.map Value.string).toArray 9)) (LabPost W (hopsL g ⟨(n, d), hn⟩ xs)) := by
  have b0 := below1 W (.cells (xs.map Value.string).toArray 9)
  refine (hopsAt _ s g (h.below b0) hg.de hg.ne ⟨(n, d), hn⟩ _ xs (strs_new W xs) (by omega)).mono ?_
  rintro e w' ⟨R, rfl, hR, hb⟩
  obtain ⟨p, cap, rfl⟩ := own_slice hR
  exact ⟨p, cap, rfl, ints_of_own hR, below_any b0 hb b0.size⟩
theorem eqOne (W : World) (z : Int) (p : Option Addr) (cap : Nat) (h : IntsAt W (.slice p 1 cap) [z]) :
    Calls Tryz.prog 24 #[.slice p 1 cap, .slice (some ⟨W.heap.size, 0, none⟩) 1 1] (W.alloc (.cells #[.int .i64 z] 2)) fun e w' => e = .returned (.bool true) ∧ Below W.heap.size W w' := by
  have b0 := below1 W (.cells #[.int .i64 z] 2)
  have q := eqNumsAt _ _ [z] [z] _ (h.below b0) ⟨_, 1, rfl, fun _ => ⟨W.heap.size, 0, rfl, fun j hj => cell_of (heap_new W _ rfl) (0 + j) (by
    have : j = 0 := by simpa using hj
    subst this
    rfl)⟩⟩ (by simp)
  refine q.mono ?_
  rintro e w' ⟨rfl, hb⟩
  exact ⟨by simp, below_any b0 hb b0.size⟩
end Go.Proofs.YtcfmenkigolnoaaGreatDoor

/- The document's own Same, for values in one another. -/
namespace Go.Proofs.YtcfmenkigolnoaaGreatDoor
open Go.RowKit

end Go.Proofs.YtcfmenkigolnoaaGreatDoor

/- wakes: the example of the law; two values compared. -/
namespace Go.Proofs.YtcfmenkigolnoaaGreatDoor
open Go.RowKit

theorem field25_1 (p q : Option Addr) (n m c d : Nat) (w : World) : (Instr.field 25 (.agg #[.slice p n c, .slice q m d]) 1).run Tryz.prog w = .ok (.slice q m d) w := by kernel_rfl
def gW : GraphL := ⟨[⟨1, [⟨#[65]⟩], []⟩], [⟨7, 1, 1, ⟨#[116]⟩, []⟩]⟩
theorem gW_may : graphP gW = true := by decide
theorem gW_good : GoodG gW := goodG gW_may
def wW : Way := ⟨(1, 0), by decide⟩
theorem numsE_gW : numsE gW = [7] := by simp [numsE, gW]
theorem numsN_gW : numsN gW = [1] := by simp [numsN, gW]
theorem gW_hops : hopsL gW wW [] = [7] := by
  unfold hopsL
  rw [numsE_gW]
  decide
theorem gW_lab : labeledL gW [⟨#[65]⟩] = [1] := by
  unfold labeledL
  rw [numsN_gW]
  simp [hasLbl, labelsOf, gW, sortS, bl_ofL]
set_option maxHeartbeats 3200000 in
set_option maxRecDepth 20000 in
theorem wakesAt (w : World) (hG : Gd w) : Calls Tryz.prog 9 #[] w fun e w' => e = .returned (.bool true) ∧ Below w.heap.size w w' := by
  obtain ⟨w1, hw1⟩ : ∃ w1, w1 = ((w.alloc (.cells #[.string ⟨#[65]⟩] 9)).alloc (.cells #[.int .i64 1, .slice (some ⟨w.heap.size, 0, none⟩) 1 1, .slice none 0 0] 38)).alloc (.cells #[.int .i64 7, .int .i64 1, .int .i64 1, .string ⟨#[116]⟩, .slice none 0 0] 41) := ⟨_, rfl⟩
  have bw : Below w.heap.size w w1 := by rw [hw1]; exact (below2 _ _ _).alloc (by simp; omega) _
  have u0 : w1.heap[w.heap.size]? = some (.cells #[.string ⟨#[65]⟩] 9 (0, 0)) := by rw [hw1]; exact heap_old _ (heap_old _ (heap_new _ _ rfl))
  have u1 : w1.heap[w.heap.size + 1]? = some (.cells #[.int .i64 1, .slice (some ⟨w.heap.size, 0, none⟩) 1 1, .slice none 0 0] 38 (0, 0)) := by rw [hw1]; exact heap_old _ (heap_new _ _ (by simp))
  have u2 : w1.heap[w.heap.size + 1 + 1]? = some (.cells #[.int .i64 7, .int .i64 1, .int .i64 1, .string ⟨#[116]⟩, .slice none 0 0] 41 (0, 0)) := by rw [hw1]; exact heap_new _ _ (by simp)
  have hsz : w1.heap.size = w.heap.size + 3 := by rw [hw1]; simp
  have sl : SliceE textE w1 (Old w1) (.slice (some ⟨w.heap.size, 0, none⟩) 1 1) [⟨#[65]⟩] := ⟨_, 1, rfl, fun _ => ⟨w.heap.size, 0, _, rfl, by show w.heap.size < w1.heap.size; omega, range_of_heap u0 0 [.string ⟨#[65]⟩] rfl, RowE.single ⟨rfl, by decide⟩⟩⟩
  have sn : SliceE nodeE w1 (Old w1) (.slice (some ⟨w.heap.size + 1, 0, none⟩) 1 1) gW.nodes := ⟨_, 1, rfl, fun _ => ⟨w.heap.size + 1, 0, _, rfl, by show w.heap.size + 1 < w1.heap.size; omega, range_of_heap u1 0 [.int .i64 1, .slice (some ⟨w.heap.size, 0, none⟩) 1 1, .slice none 0 0] rfl, RowE.single ⟨_, _, rfl, by decide, by decide, by decide, sl, SliceE.nil _ _⟩⟩⟩
  have se : SliceE edgeE w1 (Old w1) (.slice (some ⟨w.heap.size + 1 + 1, 0, none⟩) 1 1) gW.edges := ⟨_, 1, rfl, fun _ => ⟨w.heap.size + 1 + 1, 0, _, rfl, by show w.heap.size + 1 + 1 < w1.heap.size; omega, range_of_heap u2 0 [.int .i64 7, .int .i64 1, .int .i64 1, .string ⟨#[116]⟩, .slice none 0 0] rfl, RowE.single ⟨_, rfl, by decide, by decide, by decide, SliceE.nil _ _⟩⟩⟩
  have hl := loadAt gW _ _ w1 (hG.below bw) sn se (by decide) (by decide)
  have HL := Lib.hid hl
  have HBW := Lib.hid bw
  have HW := Lib.hid hw1
  clear hl sn se sl u0 u1 u2 hsz bw hG hw1
  have hf25 := field25_1
  go_enter Tryz.func9, Tryz.ntmps9
  go_upto_region 2 with (first
    | (rw [← HW.out]; go_at_call 11; go_loud (refine HL.out.mono ?_); rintro e w2 ⟨hb2, hs⟩; rw [if_pos gW_may] at hs; obtain ⟨s, rfl, hst⟩ := hs))
  have b2 := below_any HBW.out hb2 HBW.out.size
  have HHP : Hid (Calls Tryz.prog 23 #[.pointer (some ⟨s, 0, none⟩), .int .i64 1, .int .i64 0, .slice none 0 0] w2 (fun e w' => ∃ p cap, e = .returned (.slice p 1 cap) ∧ IntsAt w' (.slice p 1 cap) [7] ∧ Below w2.heap.size w2 w')) := Lib.hid (by
    refine (hopsAt w2 s gW hst gW_good.de gW_good.ne wW (.slice none 0 0) [] ⟨none, 0, rfl, fun h => absurd rfl h⟩ (by decide)).mono ?_
    rintro e w' ⟨R, rfl, hR, hb⟩
    rw [gW_hops] at hR
    obtain ⟨p, cap, rfl⟩ := own_slice hR
    exact ⟨p, cap, rfl, ints_of_own hR, hb⟩)
  have HLB : Hid (∀ W', StoreE W' s gW → Calls Tryz.prog 31 #[.pointer (some ⟨s, 0, none⟩), .slice (some ⟨W'.heap.size, 0, none⟩) 1 1] (W'.alloc (.cells #[.string ⟨#[65]⟩] 9)) (fun e w' => ∃ p cap, e = .returned (.slice p 1 cap) ∧ IntsAt w' (.slice p 1 cap) [1] ∧ Below W'.heap.size W' w')) := Lib.hid fun W' h => by
    refine (askLab W' s gW h gW_good [⟨#[65]⟩] (fun t ht => by
      obtain rfl : t = ⟨#[65]⟩ := by simpa using ht
      decide) (by decide)).mono ?_
    rintro e w' ⟨p, cap, rfl, hi, hb⟩
    rw [gW_lab] at hi ⊢
    exact ⟨p, cap, rfl, hi, hb⟩
  have HPL : Hid (∀ W', StoreE W' s gW → Calls Tryz.prog 16 #[.pointer (some ⟨s, 0, none⟩)] W' (fun e w' => ∃ pn nn kn pe ke, e = .returned (.agg #[.slice pn nn kn, .slice pe 1 ke]) ∧ Below W'.heap.size W' w')) := Lib.hid fun W' h => by
    refine (plainAt W' s gW h gW_good).mono ?_
    intro e w' hp
    obtain ⟨vn, ve, rfl, hn, he, hb⟩ := hp.slices
    obtain ⟨p1, c1, rfl⟩ := hn.slice
    obtain ⟨p2, c2, rfl⟩ := he.slice
    rw [show (plainG gW).edges.length = 1 from plainG_edges gW]
    exact ⟨p1, _, c1, p2, c2, rfl, hb⟩
  have HEQ := Lib.hid (fun W' z p cap h => eqOne W' z p cap h)
  have HST := Lib.hid hst
  have HB2 := Lib.hid b2
  clear hst hb2 b2 HL HBW HW
  go_wp2_with (first
    | (go_at_call 23; (with_reducible refine HHP.out.mono ?_); rintro e w3 ⟨p3, k3, rfl, hi3, hb3⟩; have B3 := hb3)
    | (go_at_call 24; (with_reducible refine (HEQ.out _ 7 p3 k3 hi3).mono ?_); rintro e w4 ⟨rfl, hb4⟩; have B4 := below_any B3 hb4 B3.size; have st4 := HST.out.below B4)
    | (go_at_call 31; (with_reducible refine (HLB.out _ st4).mono ?_); rintro e w5 ⟨p5, k5, rfl, hi5, hb5⟩; have B5 := below_any B4 hb5 B4.size)
    | (go_at_call 24; (with_reducible refine (HEQ.out _ 1 p5 k5 hi5).mono ?_); rintro e w6 ⟨rfl, hb6⟩; have B6 := below_any B5 hb6 B5.size; have st6 := HST.out.below B6)
    | (go_at_call 16; (with_reducible refine (HPL.out _ st6).mono ?_); rintro e w7 ⟨pn, nn, kn, pe, ke, rfl, hb7⟩; have B7 := below_any B6 hb7 B6.size))
  go_ret
  exact ⟨rfl, below_any HB2.out B7 HB2.out.size⟩
end Go.Proofs.YtcfmenkigolnoaaGreatDoor

/- What Prop tells of a graph that may be (pure). -/
namespace Go.Proofs.YtcfmenkigolnoaaGreatDoor
open Go.RowKit

end Go.Proofs.YtcfmenkigolnoaaGreatDoor

/- The law GraphProps: each property is told as it was handed in, by its key. -/
namespace Go.Proofs.YtcfmenkigolnoaaGreatDoor
open Go.RowKit

/-- What stands while the law runs: the store, the graph's box, the graph. -/
structure Run (s gb : Nat) (vn ve : Value) (g : GraphL) (W : World) : Prop where
  st : StoreE W s g
  box : W.heap[gb]? = some (.cells #[vn, ve] 25 (0, 0))
  ns : SliceE nodeE W (Old W) vn g.nodes
  es : SliceE edgeE W (Old W) ve g.edges
theorem Run.below {W W' : World} {s gb : Nat} {vn ve : Value} {g : GraphL} (h : Run s gb vn ve g W) (b : Below W.heap.size W W') : Run s gb vn ve g W' :=
  ⟨h.st.below b, (b.block _ (lt_of_heap h.box)).trans h.box, h.ns.stays (old_below b), h.es.stays (old_below b)⟩
theorem cell_below {W W' : World} {p : Addr} {v : Value} (h : W.cell? p = some v) (b : Below W.heap.size W W') : W'.cell? p = some v := (b.cell (p := p) (World.block_lt_of_cell? W _ h)).trans h
end Go.Proofs.YtcfmenkigolnoaaGreatDoor

/- Labels and types, in several and in each (pure). -/
namespace Go.Proofs.YtcfmenkigolnoaaGreatDoor
open Go.RowKit

theorem labeledL_two (g : GraphL) (a b : ByteArray) : labeledL g [a, b] = (labeledL g [a]).filter fun x => (labeledL g [b]).contains x := by
  unfold labeledL
  rw [List.filter_filter]
  refine List.filter_congr fun i hi => ?_
  have e : ((numsN g).filter fun i => [b].all fun t => hasLbl g.nodes t i).contains i = hasLbl g.nodes b i := by
    rw [Bool.eq_iff_iff, List.contains_iff_mem, List.mem_filter]
    simp [hi]
  rw [e]
  simp [Bool.and_comm]
theorem labeledL_twice (g : GraphL) (a : ByteArray) : labeledL g [a, a] = labeledL g [a] := by
  unfold labeledL
  refine List.filter_congr fun i _ => ?_
  simp
theorem filter_nth {α : Type} (p : α → Bool) (l : List α) (i : Nat) (hi : i < l.length) (hp : p l[i] = true) : ∃ h : ((l.take i).filter p).length < (l.filter p).length, (l.filter p)[((l.take i).filter p).length] = l[i] := by
  have e : l.filter p = (l.take i).filter p ++ l[i] :: (l.drop (i + 1)).filter p := by
    conv => lhs; rw [← List.take_append_drop i l, List.filter_append, List.drop_eq_getElem_cons hi, List.filter_cons_of_pos hp]
  have h1 : ((l.take i).filter p).length < (l.filter p).length := by rw [e]; simp
  refine ⟨h1, ?_⟩
  have : (l.filter p)[((l.take i).filter p).length]? = some l[i] := by
    rw [e, List.getElem?_append_right (Nat.le_refl _)]
    simp
  rw [List.getElem?_eq_getElem h1] at this
  exact Option.some.inj this
theorem filter_nth' {α : Type} (p : α → Bool) (l : List α) (i : Nat) (hi : i < l.length) (hp : p l[i] = true) : (l.filter p)[((l.take i).filter p).length]? = some l[i] := by
  obtain ⟨h1, h2⟩ := filter_nth p l i hi hp
  rw [List.getElem?_eq_getElem h1, h2]
theorem hops_split (l : List EdgeL) (a b : ByteArray) (hab : a ≠ b) (hs : List Int) : (hs.filter (typeP l [a, b])).length = (hs.filter (typeP l [a])).length + (hs.filter (typeP l [b])).length := by
  induction hs with
  | nil => rfl
  | cons i r ih =>
    have e2 := typeP_iff l [a, b] i (by simp)
    have ea := typeP_iff l [a] i (by simp)
    have eb := typeP_iff l [b] i (by simp)
    simp only [List.mem_cons, List.mem_nil_iff, or_false] at e2 ea eb
    by_cases ha : typeOf l i = a
    · have hb : ¬ typeOf l i = b := fun h => hab (ha.symm.trans h)
      rw [List.filter_cons_of_pos (e2.2 (.inl ha)), List.filter_cons_of_pos (ea.2 ha), List.filter_cons_of_neg (fun h => hb (eb.1 h)), List.length_cons, List.length_cons, ih]
      omega
    · by_cases hb : typeOf l i = b
      · rw [List.filter_cons_of_pos (e2.2 (.inr hb)), List.filter_cons_of_neg (fun h => ha (ea.1 h)), List.filter_cons_of_pos (eb.2 hb), List.length_cons, List.length_cons, ih]
        omega
      · rw [List.filter_cons_of_neg (fun h => (e2.1 h).elim ha hb), List.filter_cons_of_neg (fun h => ha (ea.1 h)), List.filter_cons_of_neg (fun h => hb (eb.1 h)), ih]
theorem hopsL_split (g : GraphL) (w : Way) (a b : ByteArray) (hab : a ≠ b) : (hopsL g w [a, b]).length = (hopsL g w [a]).length + (hopsL g w [b]).length := hops_split _ a b hab _
theorem hopsL_or (g : GraphL) (w : Way) (a b : ByteArray) (x : Int) (h : x ∈ hopsL g w [a, b]) : x ∈ hopsL g w [a] ∨ x ∈ hopsL g w [b] := by
  unfold hopsL at h ⊢
  obtain ⟨h1, h2⟩ := List.mem_filter.1 h
  have e2 := (typeP_iff g.edges [a, b] x (by simp)).1 h2
  simp only [List.mem_cons, List.mem_nil_iff, or_false] at e2
  rcases e2 with e2 | e2
  · exact .inl (List.mem_filter.2 ⟨h1, (typeP_iff _ _ _ (by simp)).2 (by simp [e2])⟩)
  · exact .inr (List.mem_filter.2 ⟨h1, (typeP_iff _ _ _ (by simp)).2 (by simp [e2])⟩)
theorem hopsL_len (g : GraphL) (w : Way) (ts : List ByteArray) : (hopsL g w ts).length ≤ g.edges.length := by
  unfold hopsL
  refine filter_le _ _ _ (filter_le _ _ _ ?_)
  rw [numsE_len]
  exact Nat.le_refl _
theorem labeledL_len (g : GraphL) (ls : List ByteArray) : (labeledL g ls).length ≤ g.nodes.length := by
  unfold labeledL
  refine filter_le _ _ _ ?_
  rw [numsN_len]
  exact Nat.le_refl _
set_option maxHeartbeats 1600000 in
set_option maxRecDepth 20000 in
/-- The law's own has. -/
theorem lawHasAt (V : Value) (xs : List Int) (x : Int) (W : World) (h : IntsAt W V xs) (hn : xs.length ≤ 2097152) :
    Calls Tryz.prog 33 #[V, .int .i64 x] W fun e w' => e = .returned (.bool (xs.contains x)) ∧ W = w' := by
  obtain ⟨p, cap, rfl, hc⟩ := h
  obtain ⟨n, hl⟩ : ∃ n, n = xs.length := ⟨_, rfl⟩
  obtain ⟨r, hr⟩ : ∃ r, r = xs.contains x := ⟨_, rfl⟩
  rw [← hr, ← hl]
  rw [← hl] at hn
  have HC := Lib.hid hc
  have HL := Lib.hid hl
  have HR := Lib.hid hr
  clear hc hl hr
  go_enter Tryz.func33, Tryz.ntmps33
  go_wp2_with fail
  go_loopg [5] n (fun gg s5 wr => ∃ j : Nat, j + gg = n ∧ s5 = .int .i64 j ∧ Hid (∀ t (h : t < xs.length), t < j → xs[t] ≠ x) ∧ wr = W)
  case atStart => exact ⟨0, by omega, rfl, Lib.hid (fun t _ h => absurd h (by omega)), rfl⟩
  case round =>
    obtain ⟨j, hjg, rfl, HA, rfl⟩ := hrel
    by_cases hj : (j : Int) < n
    · have hj1 : j < xs.length := by have := HL.out; omega
      obtain ⟨g, off, rfl, hcj⟩ := HC.out (by intro q; rw [q] at hj1; simp at hj1)
      obtain ⟨y, hy⟩ : ∃ y, y = xs[j] := ⟨_, rfl⟩
      have cj : wr.cell? ⟨g, off + j, none⟩ = some (.int .i64 y) := by
        rw [hcj j hj1, hy]
        simp [hj1]
      have HY := Lib.hid hy
      clear hcj hy
      by_cases q : y = x
      · subst q
        obtain rfl : r = true := by
          rw [HR.out, List.contains_iff_mem, HY.out]
          exact List.getElem_mem hj1
        go_wp2_with fail
        go_ret
        exact ⟨rfl, rfl⟩
      · have q2 : (y == x) = false := by simpa using q
        have HA2 : Hid (∀ t (h : t < xs.length), t < j + 1 → xs[t] ≠ x) := Lib.hid fun t h1 h2 => by
          by_cases e : t = j
          · subst e
            rw [← HY.out]
            exact q
          · exact HA.out t h1 (by omega)
        clear q
        go_wp2_with fail
        go_roundg (gk - 1)
        case measure => omega
        case rel => exact ⟨j + 1, by omega, by go_num, HA2, rfl⟩
    · obtain rfl : r = false := by
        rw [HR.out, Bool.eq_false_iff]
        intro h
        obtain ⟨t, ht, e⟩ := List.getElem_of_mem (List.contains_iff_mem.1 h)
        exact HA.out t ht (by have := HL.out; omega) e
      go_wp2_with fail
      go_ret
      exact ⟨rfl, rfl⟩
end Go.Proofs.YtcfmenkigolnoaaGreatDoor
