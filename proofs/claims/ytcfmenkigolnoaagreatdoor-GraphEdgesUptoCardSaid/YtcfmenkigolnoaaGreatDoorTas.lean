/- Texts of one kind, one behind the other: each says ahead of itself what it shows. -/
import Derived.Test.YtcfmenkigolnoaaGreatDoorTaq
import Derived.Test.YtcfmenkigolnoaaGreatDoorTaf
/- Plain: the graph in its plain form, in new memory. -/
namespace Go.Proofs.YtcfmenkigolnoaaGreatDoor
open Go.RowKit

set_option maxHeartbeats 3200000 in
set_option maxRecDepth 20000 in
theorem map45 (tell : Int → NodeL) (l : List Int) (v : Value) (bx : Nat) (w : World) (h : IntsAt w v l) (hn : l.length ≤ 2097152)
    (each : ∀ x ∈ l, ∀ W, Below w.heap.size w W → Calls Tryz.prog 46 #[.int .i64 x, .pointer (some ⟨bx, 0, none⟩)] W (TellPost nodeE (tell x) W)) :
    Calls Tryz.prog 45 #[v, .func (.func 46) #[] #[.pointer (some ⟨bx, 0, none⟩)]] w (MapPost nodeE 38 w (l.map tell)) := by
  obtain ⟨n, hln⟩ : ∃ n, n = l.length := ⟨_, rfl⟩
  obtain ⟨p, cap, rfl, _⟩ := id h
  rw [← hln] at hn
  obtain ⟨i0, hi, hz0, hz1, hz2⟩ := info_parts zero_nodeE
  have HL := Lib.hid hln
  have HH := Lib.hid h
  have HE := Lib.hid each
  rw [← hln]
  clear h hln each
  go_enter Tryz.func45, Tryz.ntmps45
  go_wp2_with fail
  go_loopg [5, 10] n (fun gg s5 s10 wr => ∃ j : Nat, j + gg = n ∧ s10 = .int .i64 j ∧ Hid (AccE nodeE 38 w ((l.take j).map tell) s5 wr))
  case atStart => exact ⟨0, by omega, rfl, Lib.hid (AccE.start nodeE 38 w)⟩
  case round =>
    obtain ⟨j, hjg, rfl, HA⟩ := hrel
    by_cases hlt : (j : Int) < n
    · have hj1 : j < l.length := by have := HL.out; omega
      have hbel := HA.out.bel
      obtain ⟨pp, cc, e0, hcv⟩ := HH.out.below hbel
      injection e0 with e1 e2 e3
      subst e1
      obtain ⟨g, off, rfl, hcj⟩ := hcv (by intro q; rw [q] at hj1; simp at hj1)
      obtain ⟨x, hxj⟩ : ∃ x, x = l[j] := ⟨_, rfl⟩
      have c0 : wr.cell? ⟨g, off + j, none⟩ = some (.int .i64 x) := by
        rw [hcj j hj1, hxj]
        simp [hj1]
      have hjl : ((l.take j).map tell).length = j := by rw [List.length_map, List.length_take]; omega
      have etk : (l.take (j + 1)).map tell = (l.take j).map tell ++ [tell x] := by rw [List.take_succ_eq_append_getElem hj1, List.map_append, hxj]; rfl
      have hbs := hbel.size
      have bX : Below wr.heap.size wr wr := Below.refl _ _
      have hcall := HE.out x (by rw [hxj]; exact List.getElem_mem hj1) wr hbel
      have HX := Lib.hid (And.intro bX hbel)
      have HK := Lib.hid (And.intro hjl etk)
      clear hcj hcv hjl etk e2 e3 hbel bX hxj
      go_wp2_with (first
        | (go_at_call 46; (with_reducible refine hcall.mono ?_); rintro e w3 ⟨u, c', rfl, hu, hc', b3⟩
           obtain ⟨⟨xs, hown, hrow⟩, hbel⟩ := HA.out
           replace hown : wr.ownsRow w.heap.size 38 3 _ _ xs := hown
           have hown3 := own_below (own_below hown HX.out.1) b3
           have hlen' : c'.length = 3 := nodeE.len hc'
           have hone' := nodeE.one hc'
           have hsX := HX.out.1.size
           have hs3 := b3.size
           have HY := Lib.hid (And.intro hown (And.intro hrow (And.intro hbel (And.intro b3 hc'))))
           clear hown hrow hbel b3 hc' HA hcall)
        | ((with_reducible refine wpList_buildOne ?_ 22 38 (.tmp 17) ?_ u c' ?_ hu i0 _ 3 hlen' (by omega) (by omega) Tryz.underlying22 hi hz0 hz1 ?_); rfl; rfl; rfl)
        | (at_builtin; refine wpList_append_own_at _ rfl _ _ 22 rfl w.heap.size 38 i0 (.agg #[.int .i64 0, .slice none 0 0, .slice none 0 0]) 3 56 Tryz.underlying22 hi hz0 hz1 hz2 rfl (by decide) _ _ _ rfl (hown3.alloc _) ⟨w3.heap.size, 0, none⟩ 1 1 c' rfl (by rw [hlen']) (cells_new _ _ _) hone' ?_ ?_ ?_ ?_))
      all_goals (try (first | (rw [HK.out.1]; unfold maxLen; omega) | (rw [HK.out.1]; omega) | (simp; omega)))
      intro v' w5 hown' hgrow _ hloc
      have e9 : min j l.length = j := by omega
      rw [e9] at hown'
      have e10 := hown'
      rw [← HK.out.1] at e10
      have acc : AccE nodeE 38 w ((l.take (j + 1)).map tell) v' w5 := by
        rw [HK.out.2]
        exact AccE.next HY.out.1 HY.out.2.1 HY.out.2.2.1 HX.out.1 HY.out.2.2.2.1 HY.out.2.2.2.2 e10 hgrow (by simpa using hloc)
      have ACC := Lib.hid acc
      clear acc hown' hgrow hloc hown3 HY HX
      go_wp2_with fail
      go_roundg (gk - 1)
      case measure => omega
      case rel => exact ⟨j + 1, by omega, by go_num, ACC⟩
    · have e : l.take j = l := by rw [List.take_of_length_le]; have := HL.out; omega
      have hA := HA.out
      rw [e] at hA
      obtain ⟨⟨xs, hown, hrow⟩, hbel⟩ := hA
      have HX := Lib.hid (And.intro hown (And.intro hrow hbel))
      clear hown hrow hbel HA
      go_wp2_with fail
      go_ret
      exact ⟨_, xs, rfl, HX.out.1, HX.out.2.1, HX.out.2.2⟩
set_option maxHeartbeats 3200000 in
set_option maxRecDepth 20000 in
theorem map48 (tell : Int → EdgeL) (l : List Int) (v : Value) (bx : Nat) (w : World) (h : IntsAt w v l) (hn : l.length ≤ 2097152)
    (each : ∀ x ∈ l, ∀ W, Below w.heap.size w W → Calls Tryz.prog 49 #[.int .i64 x, .pointer (some ⟨bx, 0, none⟩)] W (TellPost edgeE (tell x) W)) :
    Calls Tryz.prog 48 #[v, .func (.func 49) #[] #[.pointer (some ⟨bx, 0, none⟩)]] w (MapPost edgeE 41 w (l.map tell)) := by
  obtain ⟨n, hln⟩ : ∃ n, n = l.length := ⟨_, rfl⟩
  obtain ⟨p, cap, rfl, _⟩ := id h
  rw [← hln] at hn
  obtain ⟨i0, hi, hz0, hz1, hz2⟩ := info_parts zero_edgeE
  have HL := Lib.hid hln
  have HH := Lib.hid h
  have HE := Lib.hid each
  rw [← hln]
  clear h hln each
  go_enter Tryz.func48, Tryz.ntmps48
  go_wp2_with fail
  go_loopg [5, 10] n (fun gg s5 s10 wr => ∃ j : Nat, j + gg = n ∧ s10 = .int .i64 j ∧ Hid (AccE edgeE 41 w ((l.take j).map tell) s5 wr))
  case atStart => exact ⟨0, by omega, rfl, Lib.hid (AccE.start edgeE 41 w)⟩
  case round =>
    obtain ⟨j, hjg, rfl, HA⟩ := hrel
    by_cases hlt : (j : Int) < n
    · have hj1 : j < l.length := by have := HL.out; omega
      have hbel := HA.out.bel
      obtain ⟨pp, cc, e0, hcv⟩ := HH.out.below hbel
      injection e0 with e1 e2 e3
      subst e1
      obtain ⟨g, off, rfl, hcj⟩ := hcv (by intro q; rw [q] at hj1; simp at hj1)
      obtain ⟨x, hxj⟩ : ∃ x, x = l[j] := ⟨_, rfl⟩
      have c0 : wr.cell? ⟨g, off + j, none⟩ = some (.int .i64 x) := by
        rw [hcj j hj1, hxj]
        simp [hj1]
      have hjl : ((l.take j).map tell).length = j := by rw [List.length_map, List.length_take]; omega
      have etk : (l.take (j + 1)).map tell = (l.take j).map tell ++ [tell x] := by rw [List.take_succ_eq_append_getElem hj1, List.map_append, hxj]; rfl
      have hbs := hbel.size
      have bX : Below wr.heap.size wr wr := Below.refl _ _
      have hcall := HE.out x (by rw [hxj]; exact List.getElem_mem hj1) wr hbel
      have HX := Lib.hid (And.intro bX hbel)
      have HK := Lib.hid (And.intro hjl etk)
      clear hcj hcv hjl etk e2 e3 hbel bX hxj
      go_wp2_with (first
        | (go_at_call 49; (with_reducible refine hcall.mono ?_); rintro e w3 ⟨u, c', rfl, hu, hc', b3⟩
           obtain ⟨⟨xs, hown, hrow⟩, hbel⟩ := HA.out
           replace hown : wr.ownsRow w.heap.size 41 5 _ _ xs := hown
           have hown3 := own_below (own_below hown HX.out.1) b3
           have hlen' : c'.length = 5 := edgeE.len hc'
           have hone' := edgeE.one hc'
           have hsX := HX.out.1.size
           have hs3 := b3.size
           have HY := Lib.hid (And.intro hown (And.intro hrow (And.intro hbel (And.intro b3 hc'))))
           clear hown hrow hbel b3 hc' HA hcall)
        | ((with_reducible refine wpList_buildOne ?_ 23 41 (.tmp 17) ?_ u c' ?_ hu i0 _ 5 hlen' (by omega) (by omega) Tryz.underlying23 hi hz0 hz1 ?_); rfl; rfl; rfl)
        | (at_builtin; refine wpList_append_own_at _ rfl _ _ 23 rfl w.heap.size 41 i0 (.agg #[.int .i64 0, .int .i64 0, .int .i64 0, .string ⟨#[]⟩, .slice none 0 0]) 5 64 Tryz.underlying23 hi hz0 hz1 hz2 rfl (by decide) _ _ _ rfl (hown3.alloc _) ⟨w3.heap.size, 0, none⟩ 1 1 c' rfl (by rw [hlen']) (cells_new _ _ _) hone' ?_ ?_ ?_ ?_))
      all_goals (try (first | (rw [HK.out.1]; unfold maxLen; omega) | (rw [HK.out.1]; omega) | (simp; omega)))
      intro v' w5 hown' hgrow _ hloc
      have e9 : min j l.length = j := by omega
      rw [e9] at hown'
      have e10 := hown'
      rw [← HK.out.1] at e10
      have acc : AccE edgeE 41 w ((l.take (j + 1)).map tell) v' w5 := by
        rw [HK.out.2]
        exact AccE.next HY.out.1 HY.out.2.1 HY.out.2.2.1 HX.out.1 HY.out.2.2.2.1 HY.out.2.2.2.2 e10 hgrow (by simpa using hloc)
      have ACC := Lib.hid acc
      clear acc hown' hgrow hloc hown3 HY HX
      go_wp2_with fail
      go_roundg (gk - 1)
      case measure => omega
      case rel => exact ⟨j + 1, by omega, by go_num, ACC⟩
    · have e : l.take j = l := by rw [List.take_of_length_le]; have := HL.out; omega
      have hA := HA.out
      rw [e] at hA
      obtain ⟨⟨xs, hown, hrow⟩, hbel⟩ := hA
      have HX := Lib.hid (And.intro hown (And.intro hrow hbel))
      clear hown hrow hbel HA
      go_wp2_with fail
      go_ret
      exact ⟨_, xs, rfl, HX.out.1, HX.out.2.1, HX.out.2.2⟩
theorem ownNodeC (a : NodeL) (W : World) (c : List Value) (h : nodeE.rel W (Old W) c a) : Calls Tryz.prog 47 #[.agg c.toArray] W fun e w' => ∃ c', e = .returned (.agg c'.toArray) ∧ nodeE.rel w' (New W w') c' a ∧ Below W.heap.size W w' := by
  obtain ⟨id, ls, ps⟩ := a
  obtain ⟨lv, pv, rfl, hid, hn1, hn2, hl, hp⟩ := h
  obtain ⟨p1, c1, rfl⟩ := hl.slice
  obtain ⟨p2, c2, rfl⟩ := hp.slice
  refine (ownNodeStep id ls ps p1 p2 c1 c2 W hn1 hn2 hl hp).mono ?_
  rintro e w' ⟨V, U, rfl, hV, hU, hb⟩
  exact ⟨[.int .i64 id, V, U], rfl, ⟨V, U, rfl, hid, hn1, hn2, hV.slice (Nat.le_refl _), hU.slice (Nat.le_refl _)⟩, hb⟩
theorem ownEdgeC (a : EdgeL) (W : World) (c : List Value) (h : edgeE.rel W (Old W) c a) : Calls Tryz.prog 50 #[.agg c.toArray] W fun e w' => ∃ c', e = .returned (.agg c'.toArray) ∧ edgeE.rel w' (New W w') c' a ∧ Below W.heap.size W w' := by
  obtain ⟨id, src, dst, ty, ps⟩ := a
  obtain ⟨pv, rfl, hid, hn1, hn2, hp⟩ := h
  obtain ⟨p2, c2, rfl⟩ := hp.slice
  refine (ownEdgeStep id src dst ty ps p2 c2 W hn1 hn2 hp).mono ?_
  rintro e w' ⟨U, rfl, hU, hb⟩
  exact ⟨[.int .i64 id, .int .i64 src, .int .i64 dst, .string ty, U], rfl, ⟨U, rfl, hid, hn1, hn2, hU.slice (Nat.le_refl _)⟩, hb⟩
/-- A box that holds the store's pointer. -/
def BoxS (w : World) (b s : Nat) : Prop := w.heap[b]? = some (.cells #[.pointer (some ⟨s, 0, none⟩)] 29 (0, 0))
set_option maxHeartbeats 3200000 in
set_option maxRecDepth 20000 in
theorem tellNode (a : NodeL) (W : World) (s b : Nat) (g : GraphL) (h : StoreE W s g) (hb : BoxS W b s) (ha : a ∈ g.nodes) (hd : (a.props.map fun p => bl p.key).Nodup) :
    Calls Tryz.prog 46 #[.int .i64 a.id, .pointer (some ⟨b, 0, none⟩)] W (TellPost nodeE (plainN a) W) := by
  obtain ⟨m0, m1, m4, m5, V2, V3, q0, q1, q2, _, _, _, _⟩ := h.is
  obtain ⟨nn, f, hnn, hmap, h3, _⟩ := q1
  obtain ⟨a', c, hp, hff, hr⟩ := h3 a ha
  rw [hp.eq hd] at hr
  have hwf : (Lit.int .i64 a.id).wf = true := by obtain ⟨_, _, rfl, hw, _⟩ := hr; exact hw
  have hki : keyOf Tryz.prog 2 (.int .i64 a.id) = some (.int .i64 a.id) := Go.Maps.keyOf_int_mk Tryz.underlying2 hwf
  have u1 : (W.alloc (.cells #[.int .i64 0, .slice none 0 0, .slice none 0 0] 38)).heap[W.heap.size]? = some (.cells #[.int .i64 0, .slice none 0 0, .slice none 0 0] 38 (0, 0)) := heap_new _ _ rfl
  have b0 := below1 W (.cells #[.int .i64 0, .slice none 0 0, .slice none 0 0] 38)
  have us : (W.alloc (.cells #[.int .i64 0, .slice none 0 0, .slice none 0 0] 38)).heap[s]? = _ := heap_old _ q0
  have ub : (W.alloc (.cells #[.int .i64 0, .slice none 0 0, .slice none 0 0] 38)).heap[b]? = some (.cells #[.pointer (some ⟨s, 0, none⟩)] 29 (0, 0)) := heap_old _ hb
  replace hmap := hmap.keep (b0.block _ hmap.lt)
  obtain ⟨W0, hW0⟩ : ∃ W0, W0 = W.alloc (.cells #[.int .i64 0, .slice none 0 0, .slice none 0 0] 38) := ⟨_, rfl⟩
  have hz1 : ∀ u ∈ [Value.int .i64 0, .slice none 0 0, .slice none 0 0], u.oneCell' = true := by simp [Value.oneCell']
  rw [← hW0] at u1 b0 us ub hmap
  have cs := cell_of us 0 rfl
  have cb := cell_of ub 0 rfl
  have s0 : W.heap.size < W0.heap.size := lt_of_heap u1
  have HC := Lib.hid (ownNodeC (plainN a) W0 c (nodeE.stays (old_below b0) hr))
  have H0 := Lib.hid hW0
  obtain ⟨id, hid⟩ : ∃ id, id = a.id := ⟨_, rfl⟩
  rw [← hid] at hki hff ⊢
  clear hW0 hr hp h3 hwf hb h q0 q2 hid
  go_enter Tryz.func46, Tryz.ntmps46
  go_upto_region 1 with fail
  rw [← H0.out]
  go_wp2_with (first
    | (at_lookup; refine wpList_look_held rfl _ _ 73 rfl 2 38 law2 Tryz.underlying73 (zero73 _) m0 nn rfl hmap _ (.int .i64 id) rfl hki trivial ?_; rw [hff]; simp only [Option.getD_some])
    | (go_at_call 47; (with_reducible refine HC.out.mono ?_); rintro e w3 ⟨c', rfl, hc', hb3⟩
       have u3 := (hb3.block _ (lt_of_heap u1)).trans u1
       have hlen : c'.length = 3 := nodeE.len hc'
       have hone := nodeE.one hc'
       have HR := Lib.hid (And.intro hc' hb3)
       clear hc' hb3)
    | ((with_reducible refine wpList_storeE (.tmp 3) (.tmp 10) W.heap.size 38 38 _ c' 3 u3 hlen ?_ ?_ ?_ ?_ size_nodeE rfl hone ?_); rfl; rfl; rfl; rfl; intro wX oX u5))
  have hsz := oX.size
  exact bodyPost_ret (results_cell_row (p := 3) (ty := 38) Tryz.results46 _ _ W.heap.size 38 _ (0, 0) _ rfl u5 Tryz.underlying38 rfl (by rw [size_nodeE]; simp [hlen])) rfl
    ⟨_, c', rfl, rfl, nodeE.stays (fun i hi => ⟨⟨by have := hi.1; omega, Nat.lt_of_lt_of_le hi.2 hsz⟩, oX.block i hi.2 (by have := hi.1; omega)⟩) HR.out.1, below_only (below_any b0 HR.out.2 b0.size) oX (Nat.le_refl _) (Nat.le_trans b0.size HR.out.2.size)⟩
set_option maxHeartbeats 3200000 in
set_option maxRecDepth 20000 in
theorem tellEdge (a : EdgeL) (W : World) (s b : Nat) (g : GraphL) (h : StoreE W s g) (hb : BoxS W b s) (ha : a ∈ g.edges) (hd : (a.props.map fun p => bl p.key).Nodup) :
    Calls Tryz.prog 49 #[.int .i64 a.id, .pointer (some ⟨b, 0, none⟩)] W (TellPost edgeE (plainE a) W) := by
  obtain ⟨m0, m1, m4, m5, V2, V3, q0, q1, q2, _, _, _, _⟩ := h.is
  obtain ⟨nn, f, hnn, hmap, h3, _⟩ := q2
  obtain ⟨a', c, hp, hff, hr⟩ := h3 a ha
  rw [hp.eq hd] at hr
  have hwf : (Lit.int .i64 a.id).wf = true := by obtain ⟨_, rfl, hw, _⟩ := hr; exact hw.1
  have hki : keyOf Tryz.prog 2 (.int .i64 a.id) = some (.int .i64 a.id) := Go.Maps.keyOf_int_mk Tryz.underlying2 hwf
  have u1 : (W.alloc (.cells #[.int .i64 0, .int .i64 0, .int .i64 0, .string ⟨#[]⟩, .slice none 0 0] 41)).heap[W.heap.size]? = some (.cells #[.int .i64 0, .int .i64 0, .int .i64 0, .string ⟨#[]⟩, .slice none 0 0] 41 (0, 0)) := heap_new _ _ rfl
  have b0 := below1 W (.cells #[.int .i64 0, .int .i64 0, .int .i64 0, .string ⟨#[]⟩, .slice none 0 0] 41)
  have us : (W.alloc (.cells #[.int .i64 0, .int .i64 0, .int .i64 0, .string ⟨#[]⟩, .slice none 0 0] 41)).heap[s]? = _ := heap_old _ q0
  have ub : (W.alloc (.cells #[.int .i64 0, .int .i64 0, .int .i64 0, .string ⟨#[]⟩, .slice none 0 0] 41)).heap[b]? = some (.cells #[.pointer (some ⟨s, 0, none⟩)] 29 (0, 0)) := heap_old _ hb
  replace hmap := hmap.keep (b0.block _ hmap.lt)
  obtain ⟨W0, hW0⟩ : ∃ W0, W0 = W.alloc (.cells #[.int .i64 0, .int .i64 0, .int .i64 0, .string ⟨#[]⟩, .slice none 0 0] 41) := ⟨_, rfl⟩
  have hz1 : ∀ u ∈ [Value.int .i64 0, .int .i64 0, .int .i64 0, .string ⟨#[]⟩, .slice none 0 0], u.oneCell' = true := by simp [Value.oneCell']
  rw [← hW0] at u1 b0 us ub hmap
  have cs := cell_of us 1 rfl
  have cb := cell_of ub 0 rfl
  have s0 : W.heap.size < W0.heap.size := lt_of_heap u1
  have HC := Lib.hid (ownEdgeC (plainE a) W0 c (edgeE.stays (old_below b0) hr))
  have H0 := Lib.hid hW0
  obtain ⟨id, hid⟩ : ∃ id, id = a.id := ⟨_, rfl⟩
  rw [← hid] at hki hff ⊢
  clear hW0 hr hp h3 hwf hb h q0 q1 hid
  go_enter Tryz.func49, Tryz.ntmps49
  go_upto_region 1 with fail
  rw [← H0.out]
  go_wp2_with (first
    | (at_lookup; refine wpList_look_held rfl _ _ 74 rfl 2 41 law2 Tryz.underlying74 (zero74 _) m1 nn rfl hmap _ (.int .i64 id) rfl hki trivial ?_; rw [hff]; simp only [Option.getD_some])
    | (go_at_call 50; (with_reducible refine HC.out.mono ?_); rintro e w3 ⟨c', rfl, hc', hb3⟩
       have u3 := (hb3.block _ (lt_of_heap u1)).trans u1
       have hlen : c'.length = 5 := edgeE.len hc'
       have hone := edgeE.one hc'
       have HR := Lib.hid (And.intro hc' hb3)
       clear hc' hb3)
    | ((with_reducible refine wpList_storeE (.tmp 3) (.tmp 10) W.heap.size 41 41 _ c' 5 u3 hlen ?_ ?_ ?_ ?_ size_edgeE rfl hone ?_); rfl; rfl; rfl; rfl; intro wX oX u5))
  have hsz := oX.size
  exact bodyPost_ret (results_cell_row (p := 3) (ty := 41) Tryz.results49 _ _ W.heap.size 41 _ (0, 0) _ rfl u5 Tryz.underlying41 rfl (by rw [size_edgeE]; simp [hlen])) rfl
    ⟨_, c', rfl, rfl, edgeE.stays (fun i hi => ⟨⟨by have := hi.1; omega, Nat.lt_of_lt_of_le hi.2 hsz⟩, oX.block i hi.2 (by have := hi.1; omega)⟩) HR.out.1, below_only (below_any b0 HR.out.2 b0.size) oX (Nat.le_refl _) (Nat.le_trans b0.size HR.out.2.size)⟩
/-- What Plain tells, and where it lies. -/
def PlainPost (W : World) (g : GraphL) (e : Ending) (w' : World) : Prop :=
  ∃ vn ve xn xe mid, e = .returned (.agg #[vn, ve]) ∧ W.heap.size ≤ mid ∧ mid ≤ w'.heap.size ∧ (∀ b, vn.ownBlock = some b → b < mid) ∧
    w'.ownsRow W.heap.size 38 3 vn (plainG g).nodes.length xn ∧ RowE nodeE w' (fun i => W.heap.size ≤ i ∧ i < mid ∧ vn.ownBlock ≠ some i) xn (plainG g).nodes ∧
    w'.ownsRow mid 41 5 ve (plainG g).edges.length xe ∧ RowE edgeE w' (fun i => mid ≤ i ∧ i < w'.heap.size ∧ ve.ownBlock ≠ some i) xe (plainG g).edges ∧ Below W.heap.size W w'
set_option maxHeartbeats 6400000 in
set_option maxRecDepth 20000 in
theorem plainAt (W : World) (s : Nat) (g : GraphL) (h : StoreE W s g) (hg : GoodG g) : Calls Tryz.prog 16 #[.pointer (some ⟨s, 0, none⟩)] W (PlainPost W g) := by
  obtain ⟨m0, m1, m4, m5, V2, V3, q0, q1, q2, q3, q4, _, _⟩ := h.is
  have e3 : (g.nodes.map NodeL.id).mergeSort leI = numsN g := rfl
  have e4 : (g.edges.map EdgeL.id).mergeSort leI = numsE g := rfl
  rw [e3] at q3
  rw [e4] at q4
  have i3 := ints_of_own q3
  have i4 := ints_of_own q4
  obtain ⟨p3, k3, rfl⟩ := own_slice q3
  obtain ⟨p4, k4, rfl⟩ := own_slice q4
  obtain ⟨w1, hw1⟩ : ∃ w1, w1 = (W.alloc (.cells #[.pointer (some ⟨s, 0, none⟩)] 29)).alloc (.cells #[.slice none 0 0, .slice none 0 0] 25) := ⟨_, rfl⟩
  have u1 : w1.heap[W.heap.size]? = some (.cells #[.pointer (some ⟨s, 0, none⟩)] 29 (0, 0)) := by rw [hw1]; exact heap_old _ (heap_new _ _ rfl)
  have u2 : w1.heap[W.heap.size + 1]? = some (.cells #[.slice none 0 0, .slice none 0 0] 25 (0, 0)) := by rw [hw1]; exact heap_new _ _ (by simp)
  have bw : Below W.heap.size W w1 := by rw [hw1]; exact below2 _ _ _
  have us := (bw.block _ (lt_of_heap q0)).trans q0
  have hsz1 : W.heap.size + 2 ≤ w1.heap.size := by rw [hw1]; simp
  have H45 : Hid (∀ W', Below W.heap.size W W' → BoxS W' W.heap.size s → Calls Tryz.prog 45 #[.slice p3 (numsN g).length k3, .func (.func 46) #[] #[.pointer (some ⟨W.heap.size, 0, none⟩)]] W' (MapPost nodeE 38 W' (plainG g).nodes)) := Lib.hid fun W' hb hx => by
    refine map45 (nodeAt g) (numsN g) _ _ W' (i3.below hb) (by rw [numsN_len]; have := hg.nn; omega) fun x hxm W2 hb2 => ?_
    obtain ⟨a, ha, rfl⟩ := List.mem_map.1 (List.mem_mergeSort.1 hxm)
    rw [nodeAt_eq hg.dn ha]
    exact tellNode a W2 s _ g ((h.below hb).below hb2) ((hb2.block _ (lt_of_heap hx)).trans hx) ha (props_keys (hg.nkeys a ha)).2.1
  have H48 : Hid (∀ W', Below W.heap.size W W' → BoxS W' W.heap.size s → Calls Tryz.prog 48 #[.slice p4 (numsE g).length k4, .func (.func 49) #[] #[.pointer (some ⟨W.heap.size, 0, none⟩)]] W' (MapPost edgeE 41 W' (plainG g).edges)) := Lib.hid fun W' hb hx => by
    refine map48 (edgeAt g) (numsE g) _ _ W' (i4.below hb) (by rw [numsE_len]; have := hg.ne; omega) fun x hxm W2 hb2 => ?_
    obtain ⟨a, ha, rfl⟩ := List.mem_map.1 (List.mem_mergeSort.1 hxm)
    rw [edgeAt_eq hg.de ha]
    exact tellEdge a W2 s _ g ((h.below hb).below hb2) ((hb2.block _ (lt_of_heap hx)).trans hx) ha (props_keys (hg.ekeys a ha).1).2.1
  have HW := Lib.hid hw1
  clear hw1 q1 q2 q3 q4 i3 i4 e3 e4 hg
  go_enter Tryz.func16, Tryz.ntmps16
  go_upto_region 1 with fail
  rw [← HW.out]
  refine wp_region_held_drew (S := fun W' => W'.heap[W.heap.size]? = some (.cells #[.pointer (some ⟨s, 0, none⟩)] 29 (0, 0)) ∧ W'.heap[s]? = some (.cells #[.map (some m0), .map (some m1), .slice p3 (numsN g).length k3, .slice p4 (numsE g).length k4, .map (some m4), .map (some m5)] 79 (0, 0))) (by kernel_rfl) ⟨u1, us⟩ (fun _ => ?_)
  replace bw := bw.drew
  replace u1 : w1.drew.heap[W.heap.size]? = _ := u1
  replace u2 : w1.drew.heap[W.heap.size + 1]? = _ := u2
  replace us : w1.drew.heap[s]? = _ := us
  replace hsz1 : W.heap.size + 2 ≤ w1.drew.heap.size := hsz1
  refine wpAnyH_take (i := 0) (v := .pointer (some ⟨s, 0, none⟩)) rfl (by kernel_rfl) (by kernel_rfl) (by kernel_rfl) (fun _ _ _ h => h) (Or.inl ⟨by rfl, fun W' h => by have c0 := cell_of h.1 0 rfl; go_simp⟩) (⟨u1, us⟩) ?_
  try simp only [Act.put, List.getElem_toArray, List.getElem_cons_succ, List.getElem_cons_zero, List.setIfInBounds_toArray, List.set_cons_zero, List.set_cons_succ]
  refine wpAnyH_take (i := 4) (v := .func (.func 46) #[] #[.pointer (some ⟨W.heap.size, 0, none⟩)]) rfl (by kernel_rfl) (by kernel_rfl) (by kernel_rfl) (fun _ _ _ h => h) (Or.inl ⟨by rfl, fun W _ => by go_simp⟩) (⟨u1, us⟩) ?_
  try simp only [Act.put, List.getElem_toArray, List.getElem_cons_succ, List.getElem_cons_zero, List.setIfInBounds_toArray, List.set_cons_zero, List.set_cons_succ]
  refine wpAnyH_take (i := 6) (v := .pointer (some ⟨s, 0, none⟩)) rfl (by kernel_rfl) (by kernel_rfl) (by kernel_rfl) (fun _ _ _ h => h) (Or.inl ⟨by rfl, fun W' h => by have c0 := cell_of h.1 0 rfl; go_simp⟩) (⟨u1, us⟩) ?_
  try simp only [Act.put, List.getElem_toArray, List.getElem_cons_succ, List.getElem_cons_zero, List.setIfInBounds_toArray, List.set_cons_zero, List.set_cons_succ]
  refine wpAnyH_take (i := 10) (v := .func (.func 49) #[] #[.pointer (some ⟨W.heap.size, 0, none⟩)]) rfl (by kernel_rfl) (by kernel_rfl) (by kernel_rfl) (fun _ _ _ h => h) (Or.inl ⟨by rfl, fun W _ => by go_simp⟩) (⟨u1, us⟩) ?_
  try simp only [Act.put, List.getElem_toArray, List.getElem_cons_succ, List.getElem_cons_zero, List.setIfInBounds_toArray, List.set_cons_zero, List.set_cons_succ]
  refine wpAnyH_take (i := 1) (v := .pointer (some ⟨s, 0, none⟩)) rfl (by kernel_rfl) (by kernel_rfl) (by kernel_rfl) (fun _ _ _ h => h) (Or.inl ⟨by rfl, fun W _ => by go_simp⟩) (⟨u1, us⟩) ?_
  try simp only [Act.put, List.getElem_toArray, List.getElem_cons_succ, List.getElem_cons_zero, List.setIfInBounds_toArray, List.set_cons_zero, List.set_cons_succ]
  refine wpAnyH_take (i := 7) (v := .pointer (some ⟨s, 0, none⟩)) rfl (by kernel_rfl) (by kernel_rfl) (by kernel_rfl) (fun _ _ _ h => h) (Or.inl ⟨by rfl, fun W _ => by go_simp⟩) (⟨u1, us⟩) ?_
  try simp only [Act.put, List.getElem_toArray, List.getElem_cons_succ, List.getElem_cons_zero, List.setIfInBounds_toArray, List.set_cons_zero, List.set_cons_succ]
  refine wpAnyH_take (i := 2) (v := .pointer (some ⟨s, 2, none⟩)) rfl (by kernel_rfl) (by kernel_rfl) (by kernel_rfl) (fun _ _ _ h => h) (Or.inl ⟨by rfl, fun W _ => by go_simp⟩) (⟨u1, us⟩) ?_
  try simp only [Act.put, List.getElem_toArray, List.getElem_cons_succ, List.getElem_cons_zero, List.setIfInBounds_toArray, List.set_cons_zero, List.set_cons_succ]
  refine wpAnyH_take (i := 8) (v := .pointer (some ⟨s, 3, none⟩)) rfl (by kernel_rfl) (by kernel_rfl) (by kernel_rfl) (fun _ _ _ h => h) (Or.inl ⟨by rfl, fun W _ => by go_simp⟩) (⟨u1, us⟩) ?_
  try simp only [Act.put, List.getElem_toArray, List.getElem_cons_succ, List.getElem_cons_zero, List.setIfInBounds_toArray, List.set_cons_zero, List.set_cons_succ]
  refine wpAnyH_take (i := 3) (v := .slice p3 (numsN g).length k3) rfl (by kernel_rfl) (by kernel_rfl) (by kernel_rfl) (fun _ _ _ h => h) (Or.inl ⟨by rfl, fun W' h => by have c0 := cell_of h.2 2 rfl; go_simp⟩) (⟨u1, us⟩) ?_
  try simp only [Act.put, List.getElem_toArray, List.getElem_cons_succ, List.getElem_cons_zero, List.setIfInBounds_toArray, List.set_cons_zero, List.set_cons_succ]
  refine wpAnyH_take (i := 9) (v := .slice p4 (numsE g).length k4) rfl (by kernel_rfl) (by kernel_rfl) (by kernel_rfl) (fun _ _ _ h => h) (Or.inl ⟨by rfl, fun W' h => by have c0 := cell_of h.2 3 rfl; go_simp⟩) (⟨u1, us⟩) ?_
  try simp only [Act.put, List.getElem_toArray, List.getElem_cons_succ, List.getElem_cons_zero, List.setIfInBounds_toArray, List.set_cons_zero, List.set_cons_succ]
  refine wpAnyH_ready (rs := [5]) (by kernel_rfl) (by simp) ?_
  refine AllReadyH.cons rfl (fun K hK => ?_) AllReadyH.nil
  rw [if_pos (by rfl)]
  go_simp
  refine (H45.out _ bw u1).mono ?_
  rintro e0 w3 ⟨vn, xn, rfl, hon, hrn, hb3⟩
  have hm3 := hb3.size
  obtain ⟨pn, kn, rfl⟩ := own_slice hon
  replace u1 := (hb3.block _ (lt_of_heap u1)).trans u1
  replace u2 := (hb3.block _ (lt_of_heap u2)).trans u2
  replace us := (hb3.block _ (lt_of_heap us)).trans us
  replace bw := below_any bw hb3 bw.size
  have HN := Lib.hid (And.intro hon hrn)
  clear hb3 hon hrn
  refine hK.out _ _ (⟨u1, us⟩) (fun _ => ?_)
  clear hK K
  try simp only [Act.put, List.getElem_toArray, List.getElem_cons_succ, List.getElem_cons_zero, List.setIfInBounds_toArray, List.set_cons_zero, List.set_cons_succ]
  refine wpAnyH_ready (rs := [11]) (by kernel_rfl) (by simp) ?_
  refine AllReadyH.cons rfl (fun K hK => ?_) AllReadyH.nil
  rw [if_pos (by rfl)]
  go_simp
  refine (H48.out _ bw u1).mono ?_
  rintro e0 w4 ⟨ve, xe, rfl, hoe, hre, hb4⟩
  have hm4 := hb4.size
  obtain ⟨pe, ke, rfl⟩ := own_slice hoe
  replace u1 := (hb4.block _ (lt_of_heap u1)).trans u1
  replace u2 := (hb4.block _ (lt_of_heap u2)).trans u2
  replace us := (hb4.block _ (lt_of_heap us)).trans us
  replace bw := below_any bw hb4 bw.size
  have HE := Lib.hid (And.intro hoe (And.intro hre hb4))
  clear hb4 hoe hre
  refine hK.out _ _ (⟨u1, us⟩) (fun _ => ?_)
  clear hK K
  try simp only [Act.put, List.getElem_toArray, List.getElem_cons_succ, List.getElem_cons_zero, List.setIfInBounds_toArray, List.set_cons_zero, List.set_cons_succ]
  refine wpAnyH_take (i := 12) (v := .agg #[.slice pn (plainG g).nodes.length kn, .slice pe (plainG g).edges.length ke]) rfl (by kernel_rfl) (by kernel_rfl) (by kernel_rfl) (fun _ _ _ h => h) (Or.inl ⟨by rfl, fun W _ => by go_simp⟩) (⟨u1, us⟩) ?_
  try simp only [Act.put, List.getElem_toArray, List.getElem_cons_succ, List.getElem_cons_zero, List.setIfInBounds_toArray, List.set_cons_zero, List.set_cons_succ]
  refine wpAnyH_ready (rs := [13]) (by kernel_rfl) (by simp) ?_
  refine AllReadyH.cons rfl (fun K hK => ?_) AllReadyH.nil
  rw [if_pos (by rfl)]
  refine wp_store_row 25 (.tmp 2) (.tmp 15) rfl (W.heap.size + 1) #[.slice pn (plainG g).nodes.length kn, .slice pe (plainG g).edges.length ke] rfl rfl 25 _ u2 size25 rfl (by simp [Value.oneCell']) ?_
  have u5 := heap_setRow (c' := #[.slice pn (plainG g).nodes.length kn, .slice pe (plainG g).edges.length ke]) u2
  have on := Only.setRow (b := W.heap.size + 1) w4 #[.slice pn (plainG g).nodes.length kn, .slice pe (plainG g).edges.length ke]
  have hlt2 := lt_of_heap u2
  have hlts := lt_of_heap q0
  replace u1 := (on.block W.heap.size (lt_of_heap u1) (by omega)).trans u1
  replace us := (on.block s (lt_of_heap us) (by omega)).trans us
  have bz := below_only bw on (Nat.le_succ _) bw.size
  refine hK.out _ _ (⟨u1, us⟩) (fun _ => ?_)
  clear hK K
  try simp only [Act.put, List.getElem_toArray, List.getElem_cons_succ, List.getElem_cons_zero, List.setIfInBounds_toArray, List.set_cons_zero, List.set_cons_succ]
  refine wpAnyH_done (by kernel_rfl) ?_ _
  go_wp2_with fail
  have hon := HN.out.1
  have hrn := HN.out.2
  have hoe := HE.out.1
  have hre := HE.out.2.1
  have hb4 := HE.out.2.2
  have hsz := on.size
  refine bodyPost_ret (results_cell_row (p := 2) (ty := 25) Tryz.results16 _ _ (W.heap.size + 1) 25 _ (0, 0) _ rfl u5 Tryz.underlying25 rfl size25) rfl ?_
  refine ⟨_, _, xn, xe, w3.heap.size, rfl, by omega, by omega, fun b hb => (hon.lt b hb).2, ?_, ?_, ?_, ?_, bz⟩
  · exact own_base (own_keep hon fun i e => (on.block i (Nat.lt_of_lt_of_le (hon.lt i e).2 hm4) (by have := (hon.lt i e).1; omega)).trans (hb4.block i (hon.lt i e).2)) (by omega)
  · exact RowE.stays (fun i hi => ⟨⟨by have := hi.1; omega, hi.2.1, hi.2.2⟩, (on.block i (Nat.lt_of_lt_of_le hi.2.1 hm4) (by have := hi.1; omega)).trans (hb4.block i hi.2.1)⟩) _ hrn
  · exact own_keep hoe fun i e => on.block i (hoe.lt i e).2 (by have := (hoe.lt i e).1; omega)
  · exact RowE.stays (fun i hi => ⟨⟨hi.1, Nat.lt_of_lt_of_le hi.2.1 hsz, hi.2.2⟩, on.block i hi.2.1 (by have := hi.1; omega)⟩) _ hre
theorem PlainPost.slices {W : World} {g : GraphL} {e : Ending} {w' : World} (h : PlainPost W g e w') : ∃ vn ve, e = .returned (.agg #[vn, ve]) ∧ SliceE nodeE w' (New W w') vn (plainG g).nodes ∧ SliceE edgeE w' (New W w') ve (plainG g).edges ∧ Below W.heap.size W w' := by
  obtain ⟨vn, ve, xn, xe, mid, rfl, h1, h2, h3, h4, h5, h6, h7, h8⟩ := h
  exact ⟨vn, ve, rfl, sliceE_of_own h4 h5 (fun i hi => ⟨hi.1, by omega⟩) (fun i e => h4.lt i e), sliceE_of_own h6 h7 (fun i hi => ⟨by omega, hi.2.1⟩) (fun i e => ⟨by have := (h6.lt i e).1; omega, (h6.lt i e).2⟩), h8⟩
end Go.Proofs.YtcfmenkigolnoaaGreatDoor

/- Labels and ways, asked by a row of texts that is built for it. -/
namespace Go.Proofs.YtcfmenkigolnoaaGreatDoor
open Go.RowKit

/-- What tells a row of numbers. -/
def LabPost (W : World) (zs : List Int) (e : Ending) (w' : World) : Prop := ∃ p cap, e = .returned (.slice p zs.length cap) ∧ IntsAt w' (.slice p zs.length cap) zs ∧ Below W.heap.size W w'
theorem strs_new (W : World) (xs : List ByteArray) : StrsAt (W.alloc (.cells (xs.map Value.string).toArray 9)) (.slice (some ⟨W.heap.size, 0, none⟩) xs.length xs.length) xs :=
  ⟨_, _, rfl, fun _ => ⟨W.heap.size, 0, rfl, fun j hj => cell_of (heap_new _ _ rfl) (0 + j) (by simp [hj])⟩⟩
theorem askLab (W : World) (s : Nat) (g : GraphL) (h : StoreE W s g) (hg : GoodG g) (xs : List ByteArray) (hx : ∀ t ∈ xs, t.size ≤ 2097152) (hl : xs.length ≤ 2) :
    Calls Tryz.prog 31 #[.pointer (some ⟨s, 0, none⟩), .slice (some ⟨W.heap.size, 0, none⟩) xs.length xs.length] (W.alloc (.cells (xs.map Value.string).toArray 9)) (LabPost W (labeledL g xs)) := by
  have b0 := below1 W (.cells (xs.map Value.string).toArray 9)
  refine (labeledAt _ s g (h.below b0) hg.dn (fun a ha => (hg.labels a ha).2.1) hg.nn _ xs (strs_new W xs) (by omega) hx).mono ?_
  rintro e w' ⟨R, rfl, hR, hb⟩
  obtain ⟨p, cap, rfl⟩ := own_slice hR
  exact ⟨p, cap, rfl, ints_of_own hR, below_any b0 hb b0.size⟩
theorem eqOne (W : World) (z : Int) (p : Option Addr) (cap : Nat) (h : IntsAt W (.slice p 1 cap) [z]) :
    Calls Tryz.prog 24 #[.slice p 1 cap, .slice (some ⟨W.heap.size, 0, none⟩) 1 1] (W.alloc (.cells #[.int .i64 z] 2)) fun e w' => e = .returned (.bool true) ∧ Below W.heap.size W w' := by
  have b0 := below1 W (.cells #[.int .i64 z] 2)
  have q := eqNumsAt _ _ [z] [z] _ (h.below b0) ⟨_, 1, rfl, fun _ => ⟨W.heap.size, 0, rfl, fun j hj => cell_of (heap_new W _ rfl) (0 + j) (by
    have : j = 0 := by simpa using hj
    subst this
    rfl)⟩⟩ (by simp)
  refine q.mono ?_
  rintro e w' ⟨rfl, hb⟩
  exact ⟨by simp, below_any b0 hb b0.size⟩
end Go.Proofs.YtcfmenkigolnoaaGreatDoor

/- The document's own Same, for values in one another. -/
namespace Go.Proofs.YtcfmenkigolnoaaGreatDoor
open Go.RowKit

/-- The document's own Same's contract at a value. -/
def SameZ (v : Val) : Prop := ∀ (W : World) (k : Int) (b : Bool) (n : Int) (t x : ByteArray) (q : List Val) (p : Option Addr) (cap : Nat) (v2 : Val) (k2 : Int) (b2 : Bool) (n2 : Int) (t2 x2 : ByteArray) (q2 : List Val) (p2 : Option Addr) (cap2 : Nat),
  v = .mk k b n t x q → v2 = .mk k2 b2 n2 t2 x2 q2 → q.length ≤ 2097152 → Held W (.slice p q.length cap) q → Held W (.slice p2 q2.length cap2) q2 →
  Calls Tryz.prog 28 #[.agg #[.int .i64 k, .bool b, .int .i64 n, .string t, .string x, .slice p q.length cap], .agg #[.int .i64 k2, .bool b2, .int .i64 n2, .string t2, .string x2, .slice p2 q2.length cap2]] W
    fun e w' => e = .returned (.bool (sameP v v2)) ∧ Below W.heap.size W w'

theorem eqRowLen (p p2 : Option Addr) (n n2 cap cap2 : Nat) (w : World) (h : ¬ n = n2) :
    Calls Tryz.prog 60 #[.slice p n cap, .slice p2 n2 cap2] w fun e w' => e = .returned (.bool false) ∧ Below w.heap.size w w' := by
  have h1 : ((n : Int) != n2) = true := by simp; omega
  clear h
  go_enter Tryz.func60, Tryz.ntmps60
  go_wp2_with fail
  go_ret
  exact ⟨rfl, Below.refl _ _⟩
theorem eqRowNone (p p2 : Option Addr) (cap cap2 : Nat) (w : World) :
    Calls Tryz.prog 60 #[.slice p 0 cap, .slice p2 0 cap2] w fun e w' => e = .returned (.bool true) ∧ Below w.heap.size w w' := by
  go_enter Tryz.func60, Tryz.ntmps60
  go_wp2_with fail
  go_loopw [5] (fun i wr => i = .int .i64 0 ∧ wr = w) (fun _ _ => 0)
  case atStart => exact ⟨rfl, rfl⟩
  case round =>
    obtain ⟨rfl, rfl⟩ := hrel
    go_wp2_with fail
    go_ret
    exact ⟨rfl, Below.refl _ _⟩

set_option maxRecDepth 20000 in
set_option maxHeartbeats 3200000 in
theorem eqRowSome (l l2 : List Val) (g off cap g2 off2 cap2 : Nat) (w : World) (hl : Holds w g off l) (hl2 : Holds w g2 off2 l2) (hlen : l2.length = l.length) (hn : l.length ≤ 2097152) (each : ∀ v ∈ l, SameZ v) :
    Calls Tryz.prog 60 #[.slice (some ⟨g, off, none⟩) l.length cap, .slice (some ⟨g2, off2, none⟩) l.length cap2] w fun e w' => e = .returned (.bool (eachSame l l2)) ∧ Below w.heap.size w w' := by
  have HH := Lib.hid hl
  have HH2 := Lib.hid hl2
  have HE := Lib.hid each
  have HL := Lib.hid hlen
  clear hl hl2 each hlen
  go_enter Tryz.func60, Tryz.ntmps60
  go_wp2_with fail
  go_loopw [5] (fun i wr => ∃ j : Nat, j ≤ l.length ∧ i = .int .i64 j ∧ Below w.heap.size w wr ∧ ∀ (i : Nat) (h : i < l.length) (h2 : i < l2.length), i < j → sameP l[i] l2[i] = true) (fun i _ => l.length - (intOf i).toNat)
  case atStart => exact ⟨0, Nat.zero_le _, rfl, Below.refl _ _, fun _ _ _ h => absurd h (by omega)⟩
  case round =>
    obtain ⟨j, hj, rfl, hb, hall⟩ := hrel
    have HA := Lib.hid hall
    clear hall
    by_cases hlt : j < l.length
    · have hlt2 : j < l2.length := by have := HL.out; omega
      obtain ⟨k, b, n, t, x, q, p, cp, o1⟩ := (Holds.at_ l off HH.out j hlt).opens
      obtain ⟨k2, b2, n2, t2, x2, q2, p2, cp2, o2⟩ := (Holds.at_ l2 off2 HH2.out j hlt2).opens
      have hc := fun W (hb : Below w.heap.size w W) => HE.out l[j] (List.getElem_mem hlt) W k b n t x q p cp l2[j] k2 b2 n2 t2 x2 q2 p2 cp2 o1.e o2.e o1.hf.hn (Held.below q o1.hl hb) (Held.below q2 o2.hl hb)
      obtain ⟨r, hr⟩ : ∃ r, r = sameP l[j] l2[j] := ⟨_, rfl⟩
      rw [← hr] at hc
      have R1 : ∀ w', Below w.heap.size w w' → w'.rangeAt g (off + j * 6) [.int .i64 k, .bool b, .int .i64 n, .string t, .string x, .slice p q.length cp] := fun w' h => (o1.below h).range
      have R2 : ∀ w', Below w.heap.size w w' → w'.rangeAt g2 (off2 + j * 6) [.int .i64 k2, .bool b2, .int .i64 n2, .string t2, .string x2, .slice p2 q2.length cp2] := fun w' h => (o2.below h).range
      have HC := Lib.hid hc
      have HR := Lib.hid hr
      have HR1 := Lib.hid R1
      have HR2 := Lib.hid R2
      clear o1 o2 hr hc R1 R2
      have hlti : (j : Int) < l.length := by omega
      go_wp2_with fail
      refine wp_region_held_drew (S := fun w' => Below w.heap.size w w') (by kernel_rfl) hb.drew (fun hHeld => ?_)
      refine wpAnyH_take (i := 0) (v := .slice (some ⟨g, off, none⟩) l.length cap) rfl (by kernel_rfl) (by kernel_rfl) (by kernel_rfl) (fun _ _ _ h => h) (Or.inl ⟨by rfl, fun W _ => by go_simp⟩) hHeld ?_
      try simp only [Act.put, List.getElem_toArray, List.getElem_cons_succ, List.getElem_cons_zero, List.setIfInBounds_toArray, List.set_cons_zero, List.set_cons_succ]
      refine wpAnyH_take (i := 1) (v := .int .i64 j) rfl (by kernel_rfl) (by kernel_rfl) (by kernel_rfl) (fun _ _ _ h => h) (Or.inl ⟨by rfl, fun W _ => by go_simp⟩) hHeld ?_
      try simp only [Act.put, List.getElem_toArray, List.getElem_cons_succ, List.getElem_cons_zero, List.setIfInBounds_toArray, List.set_cons_zero, List.set_cons_succ]
      refine wpAnyH_take (i := 2) (v := .pointer (some ⟨g, off + j * 6, none⟩)) rfl (by kernel_rfl) (by kernel_rfl) (by kernel_rfl) (fun _ _ _ h => h) (Or.inl ⟨by rfl, fun W _ => by go_simp⟩) hHeld ?_
      try simp only [Act.put, List.getElem_toArray, List.getElem_cons_succ, List.getElem_cons_zero, List.setIfInBounds_toArray, List.set_cons_zero, List.set_cons_succ]
      refine wpAnyH_take (i := 3) rfl (by kernel_rfl) (by kernel_rfl) (by kernel_rfl) (fun _ _ _ h => h) (yieldsIf_load_mid (by rfl) 60 (.tmp 19) rfl g (off + j * 6) rfl _ _ (fun w h => HR1.out w h) Tryz.underlying60 rfl info28) hHeld ?_
      try simp only [Act.put, List.getElem_toArray, List.getElem_cons_succ, List.getElem_cons_zero, List.setIfInBounds_toArray, List.set_cons_zero, List.set_cons_succ]
      refine wpAnyH_take (i := 4) (v := .slice (some ⟨g2, off2, none⟩) l.length cap2) rfl (by kernel_rfl) (by kernel_rfl) (by kernel_rfl) (fun _ _ _ h => h) (Or.inl ⟨by rfl, fun W _ => by go_simp⟩) hHeld ?_
      try simp only [Act.put, List.getElem_toArray, List.getElem_cons_succ, List.getElem_cons_zero, List.setIfInBounds_toArray, List.set_cons_zero, List.set_cons_succ]
      refine wpAnyH_take (i := 5) (v := .int .i64 j) rfl (by kernel_rfl) (by kernel_rfl) (by kernel_rfl) (fun _ _ _ h => h) (Or.inl ⟨by rfl, fun W _ => by go_simp⟩) hHeld ?_
      try simp only [Act.put, List.getElem_toArray, List.getElem_cons_succ, List.getElem_cons_zero, List.setIfInBounds_toArray, List.set_cons_zero, List.set_cons_succ]
      refine wpAnyH_take (i := 6) (v := .pointer (some ⟨g2, off2 + j * 6, none⟩)) rfl (by kernel_rfl) (by kernel_rfl) (by kernel_rfl) (fun _ _ _ h => h) (Or.inl ⟨by rfl, fun W _ => by go_simp⟩) hHeld ?_
      try simp only [Act.put, List.getElem_toArray, List.getElem_cons_succ, List.getElem_cons_zero, List.setIfInBounds_toArray, List.set_cons_zero, List.set_cons_succ]
      refine wpAnyH_take (i := 7) rfl (by kernel_rfl) (by kernel_rfl) (by kernel_rfl) (fun _ _ _ h => h) (yieldsIf_load_mid (by rfl) 60 (.tmp 23) rfl g2 (off2 + j * 6) rfl _ _ (fun w h => HR2.out w h) Tryz.underlying60 rfl info28) hHeld ?_
      try simp only [Act.put, List.getElem_toArray, List.getElem_cons_succ, List.getElem_cons_zero, List.setIfInBounds_toArray, List.set_cons_zero, List.set_cons_succ]
      refine wpAnyH_ready (rs := [8]) (by kernel_rfl) (by simp) ?_
      refine AllReadyH.cons rfl (fun K hK => ?_) AllReadyH.nil
      rw [if_pos (by rfl)]
      go_simp
      refine (HC.out _ hHeld).mono ?_
      rintro e w3 ⟨rfl, hb3⟩
      refine hK.out _ _ (below_any hHeld hb3 hHeld.size) (fun hHeld2 => ?_)
      clear hK K hb3 hHeld
      try simp only [Act.put, List.getElem_toArray, List.getElem_cons_succ, List.getElem_cons_zero, List.setIfInBounds_toArray, List.set_cons_zero, List.set_cons_succ]
      refine wpAnyH_take (i := 9) (v := .bool (!r)) rfl (by kernel_rfl) (by kernel_rfl) (by kernel_rfl) (fun _ _ _ h => h) (Or.inl ⟨by rfl, fun W _ => by go_simp⟩) hHeld2 ?_
      try simp only [Act.put, List.getElem_toArray, List.getElem_cons_succ, List.getElem_cons_zero, List.setIfInBounds_toArray, List.set_cons_zero, List.set_cons_succ]
      refine wpAnyH_done (by kernel_rfl) ?_ _
      cases r with
      | true =>
        go_wp2_with fail
        go_roundw
        case rel =>
          refine ⟨j + 1, by omega, by go_num, hHeld2, fun i hi hi2 hlt' => ?_⟩
          by_cases e : i = j
          · subst e; exact HR.out.symm
          · exact HA.out i hi hi2 (by omega)
        case measure => simp [intOf]; omega
      | false =>
        go_wp2_with fail
        go_ret
        exact ⟨by rw [eachSame_no l l2 j hlt hlt2 HR.out.symm]; rfl, hHeld2⟩
    · go_wp2_with fail
      go_ret
      exact ⟨by rw [eachSame_yes l l2 fun i h h2 => HA.out i h h2 (by omega)]; rfl, hb⟩

theorem eqRowAt (l l2 : List Val) (p p2 : Option Addr) (cap cap2 : Nat) (w : World) (hl : Held w (.slice p l.length cap) l) (hl2 : Held w (.slice p2 l2.length cap2) l2) (hn : l.length ≤ 2097152) (each : ∀ v ∈ l, SameZ v) :
    Calls Tryz.prog 60 #[.slice p l.length cap, .slice p2 l2.length cap2] w fun e w' => e = .returned (.bool ((l.length == l2.length) && eachSame l l2)) ∧ Below w.heap.size w w' := by
  by_cases h : l.length = l2.length
  · rw [show (l.length == l2.length) = true by simpa using h, Bool.true_and, ← h]
    cases l with
    | nil =>
      unfold eachSame
      exact eqRowNone _ _ _ _ _
    | cons v r =>
      cases l2 with
      | nil => simp at h
      | cons v2 r2 =>
        obtain ⟨g, off, rfl, hh⟩ := hl.form
        obtain ⟨g2, off2, rfl, hh2⟩ := hl2.form
        exact eqRowSome (v :: r) (v2 :: r2) g off cap g2 off2 cap2 w hh hh2 h.symm hn each
  · rw [show (l.length == l2.length) = false by simpa using h, Bool.false_and]
    exact eqRowLen p p2 _ _ cap cap2 w h

set_option maxHeartbeats 1600000 in
theorem sameZ_step (v : Val) (k : Int) (b : Bool) (n : Int) (t x : ByteArray) (q : List Val) (ev : v = .mk k b n t x q) (each : ∀ u ∈ q, SameZ u) : SameZ v := by
  subst ev
  intro W k1 b1 n1 t1 x1 q1 p cap v2 k2 b2 n2 t2 x2 q2 p2 cap2 e1 e2 hn hl hl2
  cases e1
  subst e2
  unfold sameP
  obtain ⟨c1, hc1⟩ : ∃ c1, c1 = Obj.cells #[.int .i64 k, .bool b, .int .i64 n, .string t, .string x, .slice p q.length cap] 60 := ⟨_, rfl⟩
  obtain ⟨c2, hc2⟩ : ∃ c2, c2 = Obj.cells #[.int .i64 k2, .bool b2, .int .i64 n2, .string t2, .string x2, .slice p2 q2.length cap2] 60 := ⟨_, rfl⟩
  have b0 := below2 W c1 c2
  have hc := eqRowAt q q2 p p2 cap cap2 ((W.alloc c1).alloc c2) (Held.below q hl b0) (Held.below q2 hl2 b0) hn each
  have l0 : Six ((W.alloc c1).alloc c2) W.heap.size k b n t x p q.length cap := by rw [hc1]; exact (six_new _ rfl).alloc _
  have l1 : Six ((W.alloc c1).alloc c2) (W.heap.size + 1) k2 b2 n2 t2 x2 p2 q2.length cap2 := by rw [hc2]; exact six_new _ (by simp)
  have z0 := b0.size
  have f0 := l0.c0
  have f1 := l0.c1
  have f2 := l0.c2
  have f3 := l0.c3
  have f4 := l0.c4
  have f5 := l0.c5
  have g0 := l1.c0
  have g1 := l1.c1
  have g2 := l1.c2
  have g3 := l1.c3
  have g4 := l1.c4
  have g5 := l1.c5
  clear l0 l1 hl hl2 each hn
  subst hc1 hc2
  cases a0 : (k == k2) with
  | false =>
    rw [Bool.false_and]
    go_enter Tryz.func28, Tryz.ntmps28
    go_wp2_with fail
    go_ret
    exact ⟨rfl, b0⟩
  | true =>
    rw [Bool.true_and]
    cases a1 : (b == b2) with
    | false =>
      rw [Bool.false_and]
      go_enter Tryz.func28, Tryz.ntmps28
      go_wp2_with fail
      go_ret
      exact ⟨rfl, b0⟩
    | true =>
      rw [Bool.true_and]
      cases a2 : (n == n2) with
      | false =>
        rw [Bool.false_and]
        go_enter Tryz.func28, Tryz.ntmps28
        go_wp2_with fail
        go_ret
        exact ⟨rfl, b0⟩
      | true =>
        rw [Bool.true_and]
        cases a3 : (t.toList == t2.toList) with
        | false =>
          rw [Bool.false_and]
          go_enter Tryz.func28, Tryz.ntmps28
          go_wp2_with fail
          go_ret
          exact ⟨rfl, b0⟩
        | true =>
          rw [Bool.true_and]
          cases a4 : (x.toList == x2.toList) with
          | false =>
            rw [Bool.false_and]
            go_enter Tryz.func28, Tryz.ntmps28
            go_wp2_with fail
            go_ret
            exact ⟨rfl, b0⟩
          | true =>
            rw [Bool.true_and]
            generalize (q.length == q2.length && eachSame q q2) = r at hc ⊢
            go_enter Tryz.func28, Tryz.ntmps28
            go_wp2_with (go_at_call 60; (with_reducible refine hc.mono ?_); rintro e w3 ⟨rfl, hb3⟩; replace b0 := below_any b0 hb3 z0)
            go_ret
            exact ⟨rfl, b0⟩

mutual
theorem sameZAll : (v : Val) → SameZ v
  | .mk k b n t x q => sameZ_step _ k b n t x q rfl (sameZEach q)
theorem sameZEach : (q : List Val) → ∀ u ∈ q, SameZ u
  | [], _, h => absurd h (by simp)
  | v :: r, u, h => by
    rcases List.mem_cons.1 h with h | h
    · rw [h]; exact sameZAll v
    · exact sameZEach r u h
end
end Go.Proofs.YtcfmenkigolnoaaGreatDoor
