/- Texts of one kind, one behind the other: each says ahead of itself what it shows. -/
import Derived.Test.YtcfmenkigolnoaaGreatDoorTas
import Derived.Test.YtcfmenkigolnoaaGreatDoorTau
/- Node and Edge: by number, if there is one. -/
namespace Go.Proofs.YtcfmenkigolnoaaGreatDoor
open Go.RowKit

theorem results_row_tmp {fn : Func} {p q : Tmp} {ty : TypeId} (h : fn.results = #[.cell p ty, .tmp q]) (tmps : Array Value) (w : World) (g : Nat) (cs : Array Value) (v : Value)
    (hp : tmps.getD p undef = .pointer (some ⟨g, 0, none⟩)) (hq : tmps.getD q undef = v) (hl : (loadVar ty ⟨g, 0, none⟩).run Tryz.prog w = .ok (.agg cs) w) :
    (results fn tmps).run Tryz.prog w = .ok (.tuple #[.agg cs, v]) w := by
  have hp' : tmps[p]?.getD undef = .pointer (some ⟨g, 0, none⟩) := by simpa using hp
  have hq' : tmps[q]?.getD undef = v := by simpa using hq
  simp [results, h, hp', hq', asAddr, hl]
def edgeOr (g : GraphL) (i : Int) : EdgeL := ((g.edges.find? fun a => decide (a.id = i)).map plainE).getD ⟨0, 0, 0, ⟨#[]⟩, []⟩
theorem find_none {α : Type} {id : α → Int} {l : List α} {n : Int} (h : ¬ n ∈ l.map id) : l.find? (fun a => decide (id a = n)) = none := by
  rw [List.find?_eq_none]
  intro a ha q
  exact h (List.mem_map.2 ⟨a, ha, of_decide_eq_true q⟩)
theorem look_edgeOr {w : World} {P : Nat → Prop} {b : Nat} {g : GraphL} (h : AllIn edgeE EdgeL.id PlainE w P b g.edges) (hd : (g.edges.map EdgeL.id).Nodup) (hk : ∀ a ∈ g.edges, (a.props.map fun p => bl p.key).Nodup) (n : Int) : ∃ m f c, m ≤ g.edges.length ∧ HMap w Tryz.prog 2 b m f ∧ (f (.int .i64 n)).getD (.agg #[.int .i64 0, .int .i64 0, .int .i64 0, .string ⟨#[]⟩, .slice none 0 0]) = .agg c.toArray ∧ edgeE.rel w P c (edgeOr g n) ∧ (f (.int .i64 n)).isSome = decide (n ∈ g.edges.map EdgeL.id) := by
  obtain ⟨m, f, h1, h2, h3, h4⟩ := h
  by_cases q : n ∈ g.edges.map EdgeL.id
  · obtain ⟨a, ha, rfl⟩ := List.mem_map.1 q
    obtain ⟨a', c, hp, hf, hr⟩ := h3 a ha
    rw [hp.eq (hk a ha)] at hr
    refine ⟨m, f, c, h1, h2, by rw [hf]; rfl, ?_, by rw [hf, decide_eq_true q]; rfl⟩
    unfold edgeOr
    rw [find_id hd ha]
    exact hr
  · have e := h4 (.int .i64 n) fun a ha e => q (List.mem_map.2 ⟨a, ha, by injection e with _ e2; exact e2.symm⟩)
    refine ⟨m, f, [.int .i64 0, .int .i64 0, .int .i64 0, .string ⟨#[]⟩, .slice none 0 0], h1, h2, by rw [e]; rfl, ?_, by rw [e, decide_eq_false q]; rfl⟩
    unfold edgeOr
    rw [find_none q]
    exact ⟨_, rfl, ⟨by decide, by decide, by decide⟩, by decide, by decide, SliceE.nil _ _⟩
def EdgePost (W : World) (g : GraphL) (n : Int) (e : Ending) (w' : World) : Prop :=
  ∃ c, e = .returned (.tuple #[.agg c.toArray, .bool (decide (n ∈ g.edges.map EdgeL.id))]) ∧ edgeE.rel w' (New W w') c (edgeOr g n) ∧ Below W.heap.size W w'
set_option maxHeartbeats 3200000 in
set_option maxRecDepth 20000 in
theorem edgeByAt (W : World) (s : Nat) (g : GraphL) (h : StoreE W s g) (hg : GoodG g) (n : Int) (hn : (Lit.int .i64 n).wf = true) : Calls Tryz.prog 19 #[.pointer (some ⟨s, 0, none⟩), .int .i64 n] W (EdgePost W g n) := by
  obtain ⟨m0, m1, m4, m5, V2, V3, q0, q1, q2, _, _, _, _⟩ := h.is
  obtain ⟨nn, f, c, hnn, hmap, hff, hr, hsome⟩ := look_edgeOr q2 hg.de (fun a ha => (props_keys ((hg.ekeys a ha).1)).2.1) n
  have hki : keyOf Tryz.prog 2 (.int .i64 n) = some (.int .i64 n) := Go.Maps.keyOf_int_mk Tryz.underlying2 hn
  have u1 : (W.alloc (.cells #[.int .i64 0, .int .i64 0, .int .i64 0, .string ⟨#[]⟩, .slice none 0 0] 41)).heap[W.heap.size]? = some (.cells #[.int .i64 0, .int .i64 0, .int .i64 0, .string ⟨#[]⟩, .slice none 0 0] 41 (0, 0)) := heap_new _ _ rfl
  have b0 := below1 W (.cells #[.int .i64 0, .int .i64 0, .int .i64 0, .string ⟨#[]⟩, .slice none 0 0] 41)
  have us : (W.alloc (.cells #[.int .i64 0, .int .i64 0, .int .i64 0, .string ⟨#[]⟩, .slice none 0 0] 41)).heap[s]? = _ := heap_old _ q0
  replace hmap := hmap.keep (b0.block _ hmap.lt)
  obtain ⟨W0, hW0⟩ : ∃ W0, W0 = W.alloc (.cells #[.int .i64 0, .int .i64 0, .int .i64 0, .string ⟨#[]⟩, .slice none 0 0] 41) := ⟨_, rfl⟩
  have hz1 : ∀ u ∈ [Value.int .i64 0, .int .i64 0, .int .i64 0, .string ⟨#[]⟩, .slice none 0 0], u.oneCell' = true := by simp [Value.oneCell']
  rw [← hW0] at u1 b0 us hmap
  have cs := cell_of us 1 rfl
  have s0 : W.heap.size < W0.heap.size := lt_of_heap u1
  have hlc : c.length = 5 := edgeE.len hr
  have hone0 := edgeE.one hr
  have HR0 := Lib.hid (edgeE.stays (old_below b0) hr)
  have H0 := Lib.hid hW0
  obtain ⟨bb, hbb⟩ : ∃ bb, bb = decide (n ∈ g.edges.map EdgeL.id) := ⟨_, rfl⟩
  rw [← hbb] at hsome
  have HB0 := Lib.hid (And.intro hff hsome)
  have HBB := Lib.hid hbb
  have U1 := Lib.hid u1
  clear hW0 hr h q0 q1 q2 hff hsome hbb hg
  go_enter Tryz.func19, Tryz.ntmps19
  go_upto_region 1 with fail
  rw [← H0.out]
  go_upto_region 2 with (first
    | (at_lookup; refine wpList_look_held_ok rfl _ _ 74 rfl 2 41 law2 Tryz.underlying74 (zero74 _) m1 nn rfl hmap _ (.int .i64 n) rfl hki trivial ?_; rw [HB0.out.1, HB0.out.2])
    | ((with_reducible refine wpList_storeE (.tmp 6) (.tmp 15) W0.heap.size 41 41 _ c 5 (heap_new _ _ rfl) hlc ?_ ?_ ?_ ?_ size_edgeE rfl hone0 ?_); rfl; rfl; rfl; rfl; intro wX oX uX))
  have bX : Below W0.heap.size W0 wX := below_only (below1 W0 _) oX (Nat.le_refl _) (by simp)
  have HC := Lib.hid (ownEdgeC _ wX c (edgeE.stays (old_below bX) HR0.out))
  have u2 := (bX.block _ (lt_of_heap U1.out)).trans U1.out
  have HBX := Lib.hid (below_any b0 bX b0.size)
  have sX := bX.size
  clear oX bX b0 cs us hmap u1
  go_wp2_with (first
    | ((with_reducible refine wpList_loadRowE (.tmp 6) W0.heap.size 41 41 c 5 _ uX hlc Tryz.underlying41 rfl size_edgeE ?_ ?_ ?_ ?_); rfl; rfl; rfl)
    | (go_at_call 50; (with_reducible refine HC.out.mono ?_); rintro e w3 ⟨c', rfl, hc', hb3⟩
       have u3 := (hb3.block _ (lt_of_heap u2)).trans u2
       have hlen : c'.length = 5 := edgeE.len hc'
       have hone := edgeE.one hc'
       have HR := Lib.hid (And.intro hc' hb3)
       clear hc' hb3)
    | ((with_reducible refine wpList_storeE (.tmp 4) (.tmp 18) W.heap.size 41 41 _ c' 5 u3 hlen ?_ ?_ ?_ ?_ size_edgeE rfl hone ?_); rfl; rfl; rfl; rfl; intro wY oY u5))
  have hsz := oY.size
  have hbX := HBX.out
  refine bodyPost_ret (results_row_tmp (p := 4) (q := 5) (ty := 41) Tryz.results19 _ _ W.heap.size c'.toArray (.bool bb) rfl rfl (run_loadVar_row _ W.heap.size 41 41 _ (0, 0) _ u5 Tryz.underlying41 rfl (by rw [size_edgeE]; simp [hlen]))) rfl ?_
  unfold EdgePost
  rw [← HBB.out]
  exact ⟨c', rfl, edgeE.stays (fun i hi => ⟨⟨by have := hi.1; omega, Nat.lt_of_lt_of_le hi.2 hsz⟩, oY.block i hi.2 (by have := hi.1; omega)⟩) HR.out.1, below_only (below_any hbX HR.out.2 hbX.size) oY (Nat.le_refl _) (Nat.le_trans hbX.size HR.out.2.size)⟩
end Go.Proofs.YtcfmenkigolnoaaGreatDoor

/- What stands between a graph, its plain form and its ways (pure). -/
namespace Go.Proofs.YtcfmenkigolnoaaGreatDoor
open Go.RowKit

theorem sortS_bl (ss : List ByteArray) : (sortS ss).map bl = (ss.map bl).mergeSort leB := by
  unfold sortS
  rw [List.map_map]
  exact (List.map_congr_left fun x _ => bl_ofL x).trans (List.map_id _)
theorem sortS_again (ss : List ByteArray) : sortS (sortS ss) = sortS ss := by
  have e : sortS (sortS ss) = (((sortS ss).map bl).mergeSort leB).map ofL := rfl
  rw [e, sortS_bl, List.mergeSort_of_pairwise (List.pairwise_mergeSort leB_tr leB_to _)]
  rfl
theorem sortP_again (ps : List PairL) : sortP (sortP ps) = sortP ps := List.mergeSort_of_pairwise (List.pairwise_mergeSort leP_tr leP_to _)
theorem sortP_mem (ps : List PairL) (p : PairL) : p ∈ sortP ps ↔ p ∈ ps := (List.mergeSort_perm ps leP).mem_iff
theorem sortP_len (ps : List PairL) : (sortP ps).length = ps.length := List.length_mergeSort _
theorem plainN_again (a : NodeL) : plainN (plainN a) = plainN a := by
  unfold plainN
  simp only
  rw [sortS_again, sortP_again]
theorem plainE_again (a : EdgeL) : plainE (plainE a) = plainE a := by
  unfold plainE
  simp only
  rw [sortP_again]
theorem words_sort {ls : List ByteArray} (h : wordsP ls = true) : wordsP (sortS ls) = true := by
  unfold wordsP at *
  simp only [Bool.and_eq_true, decide_eq_true_eq, List.all_eq_true] at *
  refine ⟨⟨by rw [sortS_len]; exact h.1.1, fun x hx => h.1.2 x ((sortS_mem _ _).1 hx)⟩, ?_⟩
  rw [sortS_bl]
  exact (List.mergeSort_perm _ leB).nodup_iff.2 h.2
theorem props_sort {ps : List PairL} (h : propsP ps = true) : propsP (sortP ps) = true := by
  obtain ⟨h1, h2, h3, h4⟩ := props_keys h
  unfold propsP wordsP
  simp only [Bool.and_eq_true, decide_eq_true_eq, List.all_eq_true, List.length_map, List.map_map]
  refine ⟨⟨by rw [sortP_len]; exact h1, ⟨by rw [sortP_len]; exact h1, fun x hx => ?_⟩, ?_⟩, fun p hp => h4 p ((sortP_mem _ _).1 hp)⟩
  · obtain ⟨p, hp, rfl⟩ := List.mem_map.1 hx
    exact h3 p ((sortP_mem _ _).1 hp)
  · exact ((List.mergeSort_perm ps leP).map (fun p => bl p.key)).nodup_iff.2 h2
theorem numsN_mem (g : GraphL) (i : Int) : i ∈ numsN g ↔ i ∈ g.nodes.map NodeL.id := List.mem_mergeSort
theorem numsE_mem (g : GraphL) (i : Int) : i ∈ numsE g ↔ i ∈ g.edges.map EdgeL.id := List.mem_mergeSort
section
variable {g : GraphL} (hg : GoodG g)
include hg
theorem numsN_nodup : (numsN g).Nodup := (List.mergeSort_perm _ leI).nodup_iff.2 hg.dn
theorem numsE_nodup : (numsE g).Nodup := (List.mergeSort_perm _ leI).nodup_iff.2 hg.de
theorem nodeAt_id (i : Int) (hi : i ∈ numsN g) : (nodeAt g i).id = i := by
  obtain ⟨a, ha, rfl⟩ := List.mem_map.1 ((numsN_mem g i).1 hi)
  rw [nodeAt_eq hg.dn ha]
  rfl
theorem edgeAt_id (i : Int) (hi : i ∈ numsE g) : (edgeAt g i).id = i := by
  obtain ⟨a, ha, rfl⟩ := List.mem_map.1 ((numsE_mem g i).1 hi)
  rw [edgeAt_eq hg.de ha]
  rfl
theorem plain_idsN : (plainG g).nodes.map NodeL.id = numsN g := by
  unfold plainG
  rw [List.map_map]
  exact (List.map_congr_left fun i hi => nodeAt_id hg i hi).trans (List.map_id _)
theorem plain_idsE : (plainG g).edges.map EdgeL.id = numsE g := by
  unfold plainG
  rw [List.map_map]
  exact (List.map_congr_left fun i hi => edgeAt_id hg i hi).trans (List.map_id _)
theorem plain_numsN : numsN (plainG g) = numsN g := by
  unfold numsN
  rw [plain_idsN hg]
  exact List.mergeSort_of_pairwise (List.pairwise_mergeSort leI_tr leI_to _)
theorem plain_numsE : numsE (plainG g) = numsE g := by
  unfold numsE
  rw [plain_idsE hg]
  exact List.mergeSort_of_pairwise (List.pairwise_mergeSort leI_tr leI_to _)
theorem plain_good : GoodG (plainG g) where
  nn := by rw [plainG_nodes]; exact hg.nn
  ne := by rw [plainG_edges]; exact hg.ne
  dn := by rw [plain_idsN hg]; exact numsN_nodup hg
  de := by rw [plain_idsE hg]; exact numsE_nodup hg
  node := fun a ha => by
    obtain ⟨i, hi, rfl⟩ := List.mem_map.1 (show a ∈ (numsN g).map (nodeAt g) from ha)
    obtain ⟨b, hb, rfl⟩ := List.mem_map.1 ((numsN_mem g i).1 hi)
    rw [nodeAt_eq hg.dn hb]
    have h := hg.node b hb
    unfold nodeP at h ⊢
    simp only [Bool.and_eq_true] at h ⊢
    exact ⟨⟨h.1.1, words_sort h.1.2⟩, props_sort h.2⟩
  edge := fun a ha => by
    obtain ⟨i, hi, rfl⟩ := List.mem_map.1 (show a ∈ (numsE g).map (edgeAt g) from ha)
    obtain ⟨b, hb, rfl⟩ := List.mem_map.1 ((numsE_mem g i).1 hi)
    rw [edgeAt_eq hg.de hb]
    have h := hg.edge b hb
    have e : ∀ x, x ∈ idsN (plainG g) ↔ x ∈ idsN g := fun x => by
      show x ∈ (plainG g).nodes.map NodeL.id ↔ _
      rw [plain_idsN hg]
      exact numsN_mem g x
    unfold linkP edgeP at h ⊢
    simp only [Bool.and_eq_true, decide_eq_true_eq] at h ⊢
    exact ⟨⟨(e _).2 h.1.1, (e _).2 h.1.2⟩, ⟨h.2.1.1, h.2.1.2⟩, props_sort h.2.2⟩
theorem plain_nodeAt (i : Int) (hi : i ∈ numsN g) : nodeAt (plainG g) i = nodeAt g i := by
  have hm : nodeAt g i ∈ (plainG g).nodes := List.mem_map.2 ⟨i, hi, rfl⟩
  have h := nodeAt_eq (plain_good hg).dn hm
  rw [nodeAt_id hg i hi] at h
  rw [h]
  obtain ⟨a, ha, rfl⟩ := List.mem_map.1 ((numsN_mem g i).1 hi)
  rw [nodeAt_eq hg.dn ha, plainN_again]
theorem plain_edgeAt (i : Int) (hi : i ∈ numsE g) : edgeAt (plainG g) i = edgeAt g i := by
  have hm : edgeAt g i ∈ (plainG g).edges := List.mem_map.2 ⟨i, hi, rfl⟩
  have h := edgeAt_eq (plain_good hg).de hm
  rw [edgeAt_id hg i hi] at h
  rw [h]
  obtain ⟨a, ha, rfl⟩ := List.mem_map.1 ((numsE_mem g i).1 hi)
  rw [edgeAt_eq hg.de ha, plainE_again]
theorem plain_again : plainG (plainG g) = plainG g := by
  have e1 : (plainG (plainG g)).nodes = (plainG g).nodes := by
    show (numsN (plainG g)).map (nodeAt (plainG g)) = (numsN g).map (nodeAt g)
    rw [plain_numsN hg]
    exact List.map_congr_left fun i hi => plain_nodeAt hg i hi
  have e2 : (plainG (plainG g)).edges = (plainG g).edges := by
    show (numsE (plainG g)).map (edgeAt (plainG g)) = (numsE g).map (edgeAt g)
    rw [plain_numsE hg]
    exact List.map_congr_left fun i hi => plain_edgeAt hg i hi
  generalize plainG (plainG g) = x at *
  generalize plainG g = y at *
  obtain ⟨x1, x2⟩ := x
  obtain ⟨y1, y2⟩ := y
  simp only at e1 e2
  rw [e1, e2]
theorem plain_may : graphP (plainG g) = true := by
  have h := plain_good hg
  unfold graphP
  simp only [Bool.and_eq_true, decide_eq_true_eq, List.all_eq_true]
  exact ⟨⟨⟨⟨⟨h.nn, h.ne⟩, h.dn⟩, h.de⟩, h.node⟩, h.edge⟩
theorem edgeOr_eq (i : Int) (hi : i ∈ numsE g) : edgeOr g i = edgeAt g i := by
  obtain ⟨a, ha, rfl⟩ := List.mem_map.1 ((numsE_mem g i).1 hi)
  rw [edgeAt_eq hg.de ha]
  unfold edgeOr
  rw [find_id hg.de ha]
  rfl
theorem rise_N : (numsN g).Pairwise (· < ·) := by
  have h := numsN_sorted g
  have d := numsN_nodup hg
  exact (h.and d).imp fun ⟨a, b⟩ => by omega
theorem rise_E : (numsE g).Pairwise (· < ·) := by
  have h := numsE_sorted g
  have d := numsE_nodup hg
  exact (h.and d).imp fun ⟨a, b⟩ => by omega
theorem typeOf_at (i : Int) (hi : i ∈ numsE g) : typeOf g.edges i = (edgeAt g i).type := by
  obtain ⟨a, ha, rfl⟩ := List.mem_map.1 ((numsE_mem g i).1 hi)
  rw [edgeAt_eq hg.de ha, typeOf_eq hg.de ha]
  rfl
theorem hasWay_at (hw : ∀ a ∈ g.edges, (Lit.int .i64 a.src).wf = true ∧ (Lit.int .i64 a.dst).wf = true) (w : Way) (i : Int) (hi : i ∈ numsE g) : hasWay g.edges w i = decide (w.1 ∈ waysL (edgeAt g i).src (edgeAt g i).dst) := by
  obtain ⟨a, ha, rfl⟩ := List.mem_map.1 ((numsE_mem g i).1 hi)
  unfold hasWay
  rw [edgeAt_eq hg.de ha, edgeWays_eq hg.de ha]
  refine decide_eq_decide.2 ⟨fun h => ?_, fun h => ?_⟩
  · obtain ⟨p, hp, e⟩ := List.mem_map.1 h
    have q := mkW_eq (waysL_wf (hw a ha).1 (hw a ha).2 p hp)
    rw [e] at q
    rw [q]
    exact hp
  · refine List.mem_map.2 ⟨w.1, h, ?_⟩
    have q := mkW_eq (waysL_wf (hw a ha).1 (hw a ha).2 w.1 h)
    exact Subtype.ext q
end
theorem ways_out (s d n : Int) : (n, (1 : Int)) ∈ waysL s d ↔ s = n := by
  unfold waysL
  by_cases h : d = s <;> simp [h] <;> exact eq_comm
theorem ways_in (s d n : Int) : (n, (-1 : Int)) ∈ waysL s d ↔ d = n := by
  unfold waysL
  by_cases h : d = s <;> simp [h] <;> exact eq_comm
theorem ways_both (s d n : Int) : (n, (0 : Int)) ∈ waysL s d ↔ s = n ∨ d = n := by
  unfold waysL
  by_cases h : d = s
  · simp [h]
    exact eq_comm
  · simp [h]
    constructor
    · rintro (h | h)
      · exact .inl h.symm
      · exact .inr h.symm
    · rintro (h | h)
      · exact .inl h.symm
      · exact .inr h.symm
end Go.Proofs.YtcfmenkigolnoaaGreatDoor

/- How many edges go where (pure). -/
namespace Go.Proofs.YtcfmenkigolnoaaGreatDoor
open Go.RowKit

theorem count_step (f : Int → Int) (ns : List Int) (hnd : ns.Nodup) (i : Nat) (hi : i < ns.length) : (L : List Int) → (L.filter fun e => decide (f e ∈ ns.take (i + 1))).length = (L.filter fun e => decide (f e ∈ ns.take i)).length + (L.filter fun e => decide (f e = ns[i])).length
  | [] => rfl
  | e :: r => by
    have ih := count_step f ns hnd i hi r
    have h1 : f e ∈ ns.take (i + 1) ↔ f e ∈ ns.take i ∨ f e = ns[i] := by
      rw [List.take_succ_eq_append_getElem hi, List.mem_append, List.mem_singleton]
    have h2 : ¬ (f e ∈ ns.take i ∧ f e = ns[i]) := fun ⟨a, b⟩ => by
      rw [b] at a
      obtain ⟨j, hj, e2⟩ := List.getElem_of_mem a
      rw [List.getElem_take] at e2
      have hj2 : j < i := by rw [List.length_take] at hj; omega
      have := List.pairwise_iff_getElem.1 hnd j i (by omega) hi hj2
      exact this e2
    by_cases a : f e ∈ ns.take i
    · have b : ¬ f e = ns[i] := fun b => h2 ⟨a, b⟩
      rw [List.filter_cons_of_pos (by simp only [decide_eq_true_eq]; exact h1.2 (.inl a)), List.filter_cons_of_pos (by simp only [decide_eq_true_eq]; exact a), List.filter_cons_of_neg (by simp only [decide_eq_true_eq]; exact b), List.length_cons, List.length_cons, ih]
      omega
    · by_cases b : f e = ns[i]
      · rw [List.filter_cons_of_pos (by simp only [decide_eq_true_eq]; exact h1.2 (.inr b)), List.filter_cons_of_neg (by simp only [decide_eq_true_eq]; exact a), List.filter_cons_of_pos (by simp only [decide_eq_true_eq]; exact b), List.length_cons, List.length_cons, ih]
        omega
      · rw [List.filter_cons_of_neg (by simp only [decide_eq_true_eq]; exact fun h => (h1.1 h).elim a b), List.filter_cons_of_neg (by simp only [decide_eq_true_eq]; exact a), List.filter_cons_of_neg (by simp only [decide_eq_true_eq]; exact b), ih]
theorem count_all (f : Int → Int) (ns L : List Int) (h : ∀ e ∈ L, f e ∈ ns) : (L.filter fun e => decide (f e ∈ ns.take ns.length)).length = L.length := by
  rw [List.take_length, List.filter_eq_self.2 (fun e he => by simpa using h e he)]
theorem count_zero (f : Int → Int) (ns L : List Int) : (L.filter fun e => decide (f e ∈ ns.take 0)).length = 0 := by simp
theorem count_or {α : Type} (p q : α → Bool) (L : List α) : (L.filter fun e => p e || q e).length ≤ (L.filter p).length + (L.filter q).length ∧ (L.filter p).length ≤ (L.filter fun e => p e || q e).length ∧ (L.filter q).length ≤ (L.filter fun e => p e || q e).length := by
  induction L with
  | nil => simp
  | cons e r ih =>
    obtain ⟨h1, h2, h3⟩ := ih
    by_cases a : p e = true <;> by_cases b : q e = true <;> simp [a, b] <;> omega
section
variable {g : GraphL} (hg : GoodG g) (hw : ∀ a ∈ g.edges, (Lit.int .i64 a.src).wf = true ∧ (Lit.int .i64 a.dst).wf = true)
include hg hw
theorem hops_none (w : Way) : hopsL g w [] = (numsE g).filter fun i => decide (w.1 ∈ waysL (edgeAt g i).src (edgeAt g i).dst) := by
  unfold hopsL
  rw [show (typeP g.edges []) = fun _ => true from rfl, List.filter_eq_self.2 (fun _ _ => rfl)]
  exact List.filter_congr fun i hi => hasWay_at hg hw w i hi
theorem hops_out (n : Int) (h : (Lit.int .i64 n).wf = true ∧ (Lit.int .i64 1).wf = true) : hopsL g ⟨(n, 1), h⟩ [] = (numsE g).filter fun i => decide ((edgeAt g i).src = n) := by
  rw [hops_none hg hw]
  exact List.filter_congr fun i _ => decide_eq_decide.2 (ways_out _ _ n)
theorem hops_in (n : Int) (h : (Lit.int .i64 n).wf = true ∧ (Lit.int .i64 (-1)).wf = true) : hopsL g ⟨(n, -1), h⟩ [] = (numsE g).filter fun i => decide ((edgeAt g i).dst = n) := by
  rw [hops_none hg hw]
  exact List.filter_congr fun i _ => decide_eq_decide.2 (ways_in _ _ n)
theorem hops_both (n : Int) (h : (Lit.int .i64 n).wf = true ∧ (Lit.int .i64 0).wf = true) : hopsL g ⟨(n, 0), h⟩ [] = (numsE g).filter fun i => decide ((edgeAt g i).src = n) || decide ((edgeAt g i).dst = n) := by
  rw [hops_none hg hw]
  refine List.filter_congr fun i _ => ?_
  rw [← Bool.decide_or]
  exact decide_eq_decide.2 (ways_both _ _ n)
theorem mem_hops (w : Way) (ts : List ByteArray) (hts : ts ≠ []) (i : Int) (hi : i ∈ numsE g) : i ∈ hopsL g w ts ↔ w.1 ∈ waysL (edgeAt g i).src (edgeAt g i).dst ∧ (edgeAt g i).type ∈ ts := by
  unfold hopsL
  rw [List.mem_filter, List.mem_filter, hasWay_at hg hw w i hi, typeP_iff _ _ _ hts, typeOf_at hg i hi, decide_eq_true_iff]
  exact ⟨fun h => ⟨h.1.2, h.2⟩, fun h => ⟨⟨hi, h.1⟩, h.2⟩⟩
end
end Go.Proofs.YtcfmenkigolnoaaGreatDoor
